import PyProof.Rows.All
import Wide.All
import OpenK.AllK
import Wide.FinOn
import HandS.ForMost
import HandS.Style
import HandS.EndBits
import HandS.Wide
import HandS.SortKw
import HandS.Rev
import HandS.Flow
import PyProof.ReprRoads
import PyProof.TupleOfSeq
import HandS.IsInst
import KE.GoesMore
import HandS.TupAny
import HandS.SetFor
import KE.KIndexOf
import HandS.Conv
import HandS.Dict
import HandS.Walk
import HandS.Deep
import HandS.Zip
import KE.SortData
import KE.DataMinMax
import KE.DataEq
import HandS.RevRange
import HandS.RevTup
import HandS.TupMul
import HandS.Sort
import KE.KExcIs
import HandS.ForExc
import HandS.ExcInit
import HandS.ExcField
import HandS.ExcIs
import HandS.CallLocal
import HandS.Strs
import KE.KEqNest
import HandS.TryOnly
import HandS.Text
import HandS.Iter
import PyProof.ListStr
import PyProof.StrOps2
import KE.GoesEnumKw
import PyProof.Rows.CallKwBuiltin
import HandS.List
import KE.DataCmp
import PyProof.Rows.ReprOcc
import PySem.Challenge.RW_oddrounds_k18_exchange_paths_judged
set_option Elab.async false
set_option maxRecDepth 100000
set_option maxHeartbeats 4000000
set_option linter.all false
namespace KX
open PySem PySem.Spec L2
open PyProof.Rows hiding St
/-! sorted of a tuple of ints -/
section
variable {prog : Program} {w : World} {A : Around} {E : Value → Shared → Prop} {s : Shared}
theorem sortSeq {kw : List (Str × Value)} {b : Bool} {l : Addr} {T : String} {o : Obj} {vs : List Value} {n : Nat} {ns : List Int} {Q : Value → Shared → Prop}
    (hT : T = "list" ∨ T = "tuple") (ho : s.heap.get? l = some o) (hc : o.cls = .type T) (hd : o.data = .seq vs.toArray n) (hz : vs.length ≤ sizeLine) (hI : IntsAre vs ns)
    (hk : ∀ a, Builtin.«list.sort» ⟨[.ref a], kw⟩ = Builtin.«list.sort» ⟨[.ref a], [(Str.ofString "reverse", .bool b)]⟩)
    (ha1 : argsOk "sorted" ⟨[.ref l], kw⟩) (ha2 : ∀ a, argsOk "list.sort" ⟨[a], kw⟩)
    (h : ∀ (h1 h' : Heap) (p : Addr) (out : List Value) (ns' : List Int) (e : Nat), (∀ c u, s.heap.get? c = some u → h1.get? c = some u) → (∀ c u, h1.get? c = some u → h'.get? c = some u) → h1.objs.size ≤ p → h'.get? p = some (seqObj "list" out.toArray e) → IntsAre out ns' → ns'.Perm ns → OrdB b ns' →
      Q (.ref p) { s with heap := h' }) :
    wpAny (model prog w) A (call (.builtin "sorted") [.ref l] kw) Q E s := by
  refine call_function_entry_kw kind_sorted plain_sorted entry_sorted ha1 ?_
  unfold Builtin.«sorted»; refine wpAny_bind (m := checkCount "sorted" 1 1 _) (wpAny_pure ?_)
  refine wpAny_bind (wpAny_collect_seq l hT ho hc hd (fun h1 k1 => ?_) (by rw [List.size_toArray]; exact hz))
  rw [show vs.toArray.toList = vs by simp]
  refine wpAny_bind (wpAny_newList ?_ hz)
  have hp : (h1.push (seqObj "list" vs.toArray 0)).get? h1.objs.size = some (seqObj "list" vs.toArray 0) := Heap.get?_push_size _ rfl
  show wpAny _ _ _ _ _ { s with heap := h1.push (seqObj "list" vs.toArray 0) }
  refine wpAny_bind (wpAny_holding (wpAny_call_entry_kw slot_list_sort ⟨_, hp, rfl⟩ entry_list_sort ?_ (ha2 _)))
  rw [hk]
  refine SrtR.list_sort_ordR SrtO.swo_int hp hz (fun h2 => SrtO.ints_sortable hI h2) fun out hs hb => ⟨_, rfl, ?_⟩
  refine wpAny_pure ⟨_, rfl, ?_⟩
  obtain ⟨ns', i1, i2, i3⟩ := SrtR.ints_outR hI hs hb
  obtain ⟨ep, he⟩ := sortedHeap_at (vs := vs) (out := (if b = true then out.toArray.reverse else out.toArray)) hp
  refine h h1 _ _ (if b = true then out.toArray.reverse else out.toArray).toList ns' ep k1 (fun c u q => ?_) (Nat.le_refl _) (by rw [Array.toArray_toList]; exact he) i1 i2 i3
  have lt := Heap.lt_size q
  rw [sortedHeap_old (Nat.ne_of_lt lt) (by rw [size_push']; exact Nat.lt_succ_of_lt lt)]
  exact Heap.get?_push_of_some _ q
end

section
variable {X : Cx}
/-- sorted(t), sorted(t, reverse=b), t a tuple or a list of ints -/
def rSrt (K : PySem.W.Frag) (b : Bool) : List V → Hp → VK → Prop := fun vs H Q => ∃ (a : Addr) (ns : List Int), vs = [V.ref a] ∧ (SqL K H a (ns.map V.int) ∨ SqT K H a (ns.map V.int)) ∧
  ∀ (ns' : List Int) (p : Addr), ns'.Perm ns → OrdB b ns' → H p = none → Q (.ref p) (upd H p (.lst (ns'.map V.int)))
theorem srt_run {b : Bool} {kw : List (Str × Value)} {pins : List (Addr × Obj)} {s : Shared} {σ : St} {H : Hp} {a : Addr} {ns : List Int} {Q : VK} (I : Inv X pins σ H s) (hs : SqL X.K H a (ns.map V.int) ∨ SqT X.K H a (ns.map V.int))
    (hk : ∀ c, Builtin.«list.sort» ⟨[.ref c], kw⟩ = Builtin.«list.sort» ⟨[.ref c], [(Str.ofString "reverse", .bool b)]⟩) (ha1 : argsOk "sorted" ⟨[.ref a], kw⟩) (ha2 : ∀ c, argsOk "list.sort" ⟨[c], kw⟩)
    (q : ∀ (ns' : List Int) (p : Addr), ns'.Perm ns → OrdB b ns' → H p = none → Q (.ref p) (upd H p (.lst (ns'.map V.int)))) :
    wpAny (model X.prog X.w) X.A (call (.builtin "sorted") [.ref a] kw) (EP X pins σ Q) X.xe s := by
  have fin : ∀ (its : List Value), Vals (ns.map V.int) its → (ns.map V.int).length ≤ sizeLine → ∀ (h1 h' : Heap) (p : Addr) (out : List Value) (ns' : List Int) (e : Nat), (∀ c u, s.heap.get? c = some u → h1.get? c = some u) → (∀ c u, h1.get? c = some u → h'.get? c = some u) →
      h1.objs.size ≤ p → h'.get? p = some (seqObj "list" out.toArray e) → IntsAre out ns' → ns'.Perm ns → OrdB b ns' → EP X pins σ Q (.ref p) { s with heap := h' } := by
    intro its rv hz h1 h' p out ns' e k1 k2 hp he i1 i2 i3
    have I1 : Inv X pins σ H { s with heap := h1 } := I.kept (t' := s.toks) k1
    refine ⟨.ref p, upd H p (.lst (ns'.map V.int)), I1.laid (t' := s.toks) k2 hp (show ObjOk X.prog X.w _ h' p (.lst (ns'.map V.int)) from ⟨?_, out, e, vals_of_ints i1, he⟩), rfl, q ns' p i2 i3 (I1.hok.fresh hp)⟩
    rw [List.length_map, i2.length_eq]; rw [List.length_map] at hz; exact hz
  rcases hs with hs | hs
  · obtain ⟨its, rv, pl, hz⟩ := I.list hs
    obtain ⟨o, ho, hc, n, hd⟩ := pl.isList
    exact sortSeq (.inl rfl) ho hc hd (by rw [← rv.length]; exact hz) rv.ints hk ha1 ha2 (fin its rv hz)
  · obtain ⟨its, rv, ⟨o, ho, hc, n, hd⟩, hz⟩ := I.tuple hs
    exact sortSeq (.inr rfl) ho hc hd (by rw [← rv.length]; exact hz) rv.ints hk ha1 ha2 (fin its rv hz)
theorem sort_nokw (a : Addr) : Builtin.«list.sort» ⟨[.ref a], []⟩ = Builtin.«list.sort» ⟨[.ref a], [(Str.ofString "reverse", .bool false)]⟩ := by
  rw [list_sort_rev]
  first | rfl | kernel_rfl
theorem cr_srt : CallR X (.builtin "sorted") (rSrt X.K false) := by
  intro pins s σ H vs us Q I r ⟨a, ns, e, hs, q⟩
  subst e
  rw [Vals.ref1 r]
  exact srt_run I hs sort_nokw (args_sorted1 _) (fun _ => args_list_sort _) q
theorem cr_srtRev {b : Bool} : CallRK X (.builtin "sorted") [Str.ofString "reverse"] (fun vs zs H Q => zs = [.bl b] ∧ rSrt X.K b vs H Q) := by
  intro pins s σ H vs zs us ws Q I r rz ⟨ez, a, ns, e, hs, q⟩
  subst e ez
  rw [Vals.ref1 r]
  obtain ⟨w1, rfl, e1⟩ := vals1 rz
  obtain rfl : w1 = Value.bool b := e1
  exact srt_run I hs (fun _ => rfl) (args_sorted_rev _ _) (fun _ => args_list_sort_rev _ _) q
/-! a list's slice with a step -/
def pickV (xs : List V) (lo hi st : Option Int) : List V := (sliceRange (sliceBounds lo hi st xs.length).1 (sliceBounds lo hi st xs.length).2.1 (sliceBounds lo hi st xs.length).2.2).filterMap (xs[·]?)
theorem vals_pick {xs : List V} {us : List Value} (r : Vals xs us) : ∀ js : List Nat, Vals (js.filterMap (xs[·]?)) (js.filterMap (us[·]?))
  | [] => .nil
  | j :: js => by
    cases e : xs[j]? with
    | none =>
      rw [List.filterMap_cons_none e, List.filterMap_cons_none (r.none_of e)]; exact vals_pick r js
    | some x =>
      obtain ⟨u, hu, rv⟩ := r.get e
      rw [List.filterMap_cons_some e, List.filterMap_cons_some hu]
      exact .cons rv (vals_pick r js)
def tStep (K : PySem.W.Frag) (te : TE) (tl th ts : TO) : TE := fun σ H Q => te σ H fun x H1 => tl σ H1 fun l H2 => th σ H2 fun u H3 => ts σ H3 fun t H4 => t ≠ some 0 ∧ ∃ a xs, x = .ref a ∧ SqL K H4 a xs ∧ ∀ p, H4 p = none → Q (.ref p) (upd H4 p (.lst (pickV xs l u t)))
theorem pe_step {e s1 : Expr} {lo hi : Option Expr} {te : TE} {tl th ts : TO} {p2 pos : Pos} (he : PE X e te) (hl : PO X lo tl) (hu : PO X hi th) (hs : PO X (some s1) ts) : PE X (.Subscript e (.Slice lo hi (some s1) p2) pos) (tStep X.K te tl th ts) := by
  constructor
  intro pins s σ H Q I h
  refine Subscript_ (thn (he.run pins s σ H _ I h) fun v s1 ⟨x, H1, I1, r1, q1⟩ => ?_)
  refine wpAny_Slice (thn (hl.run pins s1 σ H1 _ I1 q1) fun vl s2 ⟨l, H2, I2, pl, q2⟩ => thn (hu.run pins s2 σ H2 _ I2 q2) fun vu s3 ⟨u, H3, I3, pu, q3⟩ => thn (hs.run pins s3 σ H3 _ I3 q3) fun vt s4 ⟨t, H4, I4, pt, hn, a, xs, ex, hx, q⟩ => ?_)
  subst ex
  cases r1
  have I5 : Inv X pins σ H4 { s4 with heap := s4.heap.push { cls := .type "slice", data := .fields #[vl, vu, vt] } } := I4.kept (t' := s4.toks) fun b o z => Heap.get?_push_of_some _ z
  obtain ⟨its, r, ht, hz⟩ := I5.list hx
  have hlen := r.length
  refine tail_any (ops := [.ref a, .ref s4.heap.objs.size]) ht.isList.typeIs (PySem.slot_list_getitem.lookup) ?_ (by with_unfolding_all rfl)
  refine wpAny_getItem_list_slice ht.isList (Heap.IsSliceOf.new _ vl vu vt) pl pu pt hn ?_ (by rw [List.size_toArray]; omega)
  have e1 : slicePick its.toArray l u t = ((sliceRange (sliceBounds l u t xs.length).1 (sliceBounds l u t xs.length).2.1 (sliceBounds l u t xs.length).2.2).filterMap (its[·]?)).toArray := by
    unfold slicePick; rw [List.size_toArray, hlen]; simp
  rw [e1]
  refine ⟨.ref _, _, I5.laid (t' := s4.toks) (o := .lst (pickV xs l u t)) (fun b o z => Heap.get?_push_of_some _ z) (Nat.le_refl _) ⟨?_, _, 0, vals_pick r _, Heap.get?_push_size _ rfl⟩, rfl, q _ (I5.hok.fresh (Nat.le_refl _))⟩
  have h1 := slicePick_size_le its.toArray l u t
  rw [e1, List.size_toArray, List.size_toArray] at h1
  have h2 := (vals_pick r (sliceRange (sliceBounds l u t xs.length).1 (sliceBounds l u t xs.length).2.1 (sliceBounds l u t xs.length).2.2)).length
  unfold pickV; omega
end
end KX

namespace KX
open PySem PySem.Spec L2
open PyProof.Rows hiding St
/-! a def whose callers run no repr: its promise -/
structure FnOkG (P : Program) (w : World) (K : PySem.W.Frag) (mg : Str → Option Value) (base : Heap) (CX : CXT) (k : Nat) (f : Addr) (fd : FuncData) (ps : List Str) (sp : Sp) : Prop where
  len : ∀ vs H Q E, sp vs H Q E → vs.length = ps.length
  run : ∀ (A : Around) (outer : List Env) (s : Shared) (H : Hp) (args : Args) (us : List Value) (vs : List V) (Q : VK) (E : XK), A.guards = some [] → Room k A → Env0 P w K mg base A outer s H → BindsTo s fd args (ps.zip us) → Vals vs us → sp vs H Q E →
    codeAny (model P w) A (.call (.ref f) args) (CR CX outer P w H s Q E) s
theorem FnOk.toG {P : Program} {w : World} {K : PySem.W.Frag} {mg : Str → Option Value} {base : Heap} {CX : CXT} {k : Nat} {f : Addr} {fd : FuncData} {ps : List Str} {sp : Sp} (F : FnOk P w K mg base CX k f fd ps sp) : FnOkG P w K mg base CX k f fd ps sp :=
  ⟨F.len, fun A outer s H args us vs Q E _ => F.run A outer s H args us vs Q E⟩
section
variable {CX : CXT} {P : Program} {w : World} {K : PySem.W.Frag} {mg : Str → Option Value} {base : Heap} {k : Nat} {f : Addr} {N ps : List Str} {sp : Sp}
theorem fnG {name qual : Str} {params : Arguments} {body : List Stmt} {scope : Scope} {dV kV doc pm cdv ct oc : Value} {an od : Option Addr} {osl : Array (Option Value)}
    (lk : K.lookup f = some ⟨oc, od, .func (PySem.W.fnOf name qual params body scope dV kV doc pm an cdv ct), osl⟩) (hcd : PySem.W.codeIn K cdv qual = true) (S : FnScope N ps scope) (len : ∀ vs H Q E, sp vs H Q E → vs.length = ps.length)
    (hbody : ∀ (A : Around) (outer : List Env) (s : Shared) (H : Hp) (vs : List V) (Q : VK) (E : XK), A.guards = some [] → Room k (A.deeper (envOfC qual scope s.heap.objs.size f cdv)) → sp vs H Q E →
      ∃ t, PSs (cxOf CX P w K mg base N qual scope f cdv A outer s H E) body t ∧ t { nx := fun _ H' => Q .non H', rt := Q } (start N vs) H) :
    FnOkG P w K mg base CX (k + 1) f (PySem.W.fnOf name qual params body scope dV kV doc pm an cdv ct) ps sp := by
  constructor
  · exact len
  intro A outer s H args us vs Q E hgd hr e0 hb r hsp
  have hl := len _ _ _ _ hsp
  have KX := e0.mod.kin.keeps fun b o e => (e0.bs b o e).1
  have lim := e0.mod.nolimit.keeps fun b o e => (e0.bs b o e).1
  have hkind : ∀ y ∈ ps.zip us, scope.names.lookup y.1 = some .local ∨ (scope.names.lookup y.1 = some .cell ∧ ((cellsFrom (s.heap.objs.size + 1) scope.names []).lookup y.1).isSome = true) := by
    rintro ⟨n, v⟩ hy
    exact (S.par n (List.of_mem_zip hy).1).imp id fun q => ⟨q, PySem.W.cellsFrom_some _ _ _ (.inl q)⟩
  refine codeAny_call_function hr.depth (KX _ _ lk) rfl S.co S.gen rfl (PySem.W.codeRec_of KX hcd) (hb _ _ _ _ (wpAny_newFunctionEnv_cells S.kind hkind fun env he s1 x => ?_))
  subst he
  obtain ⟨t, ht, hq⟩ := hbody A outer s H vs Q E hgd (hr.deeper _) hsp
  have I := inv_start (CX := CX) (E := E) (qual := qual) (f := f) (cd := cdv) S hr.hd e0 hl r x
  refine ⟨lim.keeps x.toInCall.keep, codeAny_func (wpAny_mono (ht.run [] s1 (start N vs) H _ I hq) (fun fl s' hs => ?_) fun e s' hs => hs)⟩
  cases fl with
  | ret u =>
    obtain ⟨v, σ', H', J, rv, q⟩ := hs
    exact ⟨v, H', J.os, J.bare, J.base, J.hok, rv, q⟩
  | next =>
    obtain ⟨σ', H', J, q⟩ := hs
    exact ⟨V.non, H', J.os, J.bare, J.base, J.hok, rfl, q⟩
  | brk => obtain ⟨_, _, _, q⟩ := hs; exact False.elim q
  | cont => obtain ⟨_, _, _, q⟩ := hs; exact False.elim q
theorem Fun.okG {x qual : Str} {st : Stmt} {fd : FuncData} (F : Fun K x qual st f fd) (S : FnScope N ps (defScope st)) (len : ∀ vs H Q E, sp vs H Q E → vs.length = ps.length)
    (hbody : ∀ (cdv : Value) (A : Around) (outer : List Env) (s : Shared) (H : Hp) (vs : List V) (Q : VK) (E : XK), A.guards = some [] → Room k (A.deeper (envOfC qual (defScope st) s.heap.objs.size f cdv)) → sp vs H Q E →
      ∃ t, PSs (cxOf CX0 P w K mg base N qual (defScope st) f cdv A outer s H E).nox (defBody st) t ∧ t { nx := fun _ H' => Q .non H', rt := Q } (start N vs) H) : FnOkG P w K mg base CX0 (k + 1) f fd ps sp := by
  obtain ⟨oc, od, kV, doc, pm, an, cdv, ct, osl, rfl, lk, hcd⟩ := F.ex
  refine fnG lk hcd S len fun A outer s H vs Q E hgd hr hsp => ?_
  obtain ⟨t, h, q⟩ := hbody cdv A outer s H vs Q E hgd hr hsp
  exact ⟨t, h.nox, q⟩
end
section
variable {X : Cx} {CX : CXT} {k : Nat} {f C : Addr} {fd : FuncData} {ps : List Str} {sp : Sp} {dvs : List V} {ds : List Value} {E : XK} {x m : Str} {p pos : Pos} {e : Expr} {es : List Expr} {t : TA}
theorem pe_callG (F : FnOkG X.prog X.w X.K X.mg X.base CX k f fd ps sp) (hgd : X.A.guards = some []) (hr : Room k X.A) (hg : Gl X x) (hm : X.mg x = some (.ref f)) (hk : PySem.W.keepIn X.K (.ref f) = true) (hb : Binds X.K fd ps ds) (hd : Vals dvs ds) (hx : Passes CX X E)
    (ha : PA X (e :: es) t) (hdb : (x == ("__debug__" : Str)) = false := by decide) (he : starEach (e :: es) X.env = (false, eval e X.env) :: starEach es X.env := by rfl) (hpl : (backTo pos (starEach es X.env)).any (·.1) = false := by rfl) :
    PE X (.Call (.Name x p) (e :: es) [] pos) (tCall sp dvs E t) := by
  constructor
  intro pins s σ H Q I h
  refine wpAny_Call_Name_kw (ld_glob I hg hm (PySem.W.callWith_K (h₀ := X.base) I.ok.mod.kin hk (thn (ha.run pos pins s σ H _ I h) fun us s1 ⟨vs, H1, I1, r, q⟩ => ⟨I1.kIn, ?_⟩) he hpl) hdb)
  have r2 : Vals (vs ++ dvs) (us ++ ds) := r.append hd
  have hl : (us ++ ds).length = ps.length := r2.length.symm.trans (F.len _ _ _ _ q)
  refine wpAny_call (codeAny_mono (F.run X.A X.stack s1 H1 ⟨us, []⟩ (us ++ ds) (vs ++ dvs) Q E hgd hr I1.env0 (hb s1 us I1.kIn hl) r2 q) fun z s' hq => ?_)
  rcases z with e' | fl
  · exact hx pins σ H1 s1 e' s' I1 hq
  · cases fl <;> first | exact I1.after hq | exact False.elim hq
end
/-! repr of data -/
section
variable {X : Cx}
def rRepr (K : PySem.W.Frag) : List V → Hp → VK → Prop := fun vs H Q => ∃ v d, vs = [v] ∧ Dp K H v d ∧ d.hasDict = false ∧ d.showable = true ∧ d.depth ≤ 60 ∧ d.shown.length ≤ sizeLine ∧ Q (.str d.shown) H
theorem cr_repr (hgd : X.A.guards = some []) (hu : X.A.units + 64 < cLine) : CallR X (.builtin "repr") (rRepr X.K) := by
  intro pins s σ H vs us Q I r ⟨v, d, e, hd, hn, hs, h60, hz, q⟩
  subst e
  obtain ⟨u, rfl, rv⟩ := vals1 r
  have fin : ∀ (h' : Heap) (t : Tok) (tk : Nat), (∀ b o, s.heap.get? b = some o → h'.get? b = some o) → EP X pins σ Q (.str d.shown t) { s with heap := h', toks := tk } := fun h' t tk hk => ⟨.str d.shown, H, I.kept hk, ⟨t, rfl⟩, q⟩
  obtain ⟨as, rd⟩ := Dp.reads I d v u hd rv
  cases rd with
  | none => exact P.repr_of_none (fin s.heap _ _ fun _ _ z => z)
  | bool b => exact P.repr_of_bool (by have := fin s.heap s.toks (s.toks + 1) fun _ _ z => z; simpa only [PyData.shown] using this)
  | int i t => exact P.repr_of_int (by simpa [PyData.showable] using hs) (by have := fin s.heap s.toks (s.toks + 1) fun _ _ z => z; simpa only [PyData.shown] using this)
  | str x t => exact P.repr_of_str (by have := fin s.heap s.toks (s.toks + 1) fun _ _ z => z; simpa only [PyData.shown] using this) (by simpa only [PyData.shown] using hz)
  | list h1 h2 h3 h4 => exact repr_of_reads' (.list h1 h2 h3 h4) hs (PyData.noDict_hsm hn) hgd (by omega) (fun _ _ z => z) (fun h' t tk hk => fin h' t tk hk) hz
  | tuple h1 h2 h3 h4 => exact repr_of_reads' (.tuple h1 h2 h3 h4) hs (PyData.noDict_hsm hn) hgd (by omega) (fun _ _ z => z) (fun h' t tk hk => fin h' t tk hk) hz
  | dict h1 h2 h3 h4 h5 => cases hd
end
end KX

namespace KX
open PySem PySem.Spec L2
open PyProof.Rows hiding St
/-! the end of a law whose def runs repr -/
section
variable {P : Program} {w : World} {K : PySem.W.Frag} {mg mb : Str → Option Value} {k : Nat} {fa a : Addr} {fd : FuncData} {x : Str} {sp : Sp} {s1 : Shared} {vs : List Value} {ns : List Int}
abbrev LawEnd (s1 : Shared) : Result → Shared → Prop := fun r s' => r = .ok (.ret (.bool true)) ∧ OldK s1.heap s'.heap ∧ s'.os = s1.os ∧ AllBare s'.gens
theorem law_core (KX : K.In s1.heap) (hns : s1.heap.Ns mainGlobals mg) (hb : s1.heap.Ns builtinsNs mb) (hbb : ∀ y : Str, y ≠ "__name__" → mb y = bootBuiltins y) (hlim : s1.heap.NoLimit) (hg : s1.gens = #[])
    (ha : s1.heap.get? a = some { cls := .type "list", data := .seq vs.toArray }) (hr : Room k callerA)
    (F : ∀ base : Heap, K.In base → base.Ns mainGlobals mg → FnOkG P w K mg base CX0 k fa fd [x] sp) (hbind : ∀ (s : Shared) (u : Value), BindsTo s fd ⟨[u], []⟩ [(x, u)])
    (H : Hp) (hO : Only H) (hok : HOk P w H s1.heap) (hA : ∀ b, H b ≠ none → b = a) (hK : H a ≠ none → K.lookup a = none)
    (hsp : sp [.ref a] H (fun v _ => v = .bl true) fun _ _ _ => False) :
    codeAny (model P w) callerA (.call (.ref fa) ⟨[.ref a], []⟩) (LawEnd s1) s1 := by
  have free : ∀ {b : Addr} {o : Obj} {es : Array DictEntry} {n : Nat}, s1.heap.get? b = some o → o.data = .dict es n → H b = none := by
    intro b o es n e d
    cases q : H b with
    | none => rfl
    | some u =>
      obtain rfl := hA b (by rw [q]; exact nofun)
      rw [ha] at e
      cases e
      exact absurd (show Data.seq vs.toArray _ = Data.dict es n from d) (fun z => nomatch z)
  have hid : ∀ {b : Addr} {m : Str → Option Value}, s1.heap.Ns b m → (hidT s1.heap H).Ns b m := by
    rintro b m ⟨o, es, n, e, d, r⟩
    exact ⟨o, es, n, hidT_get e (free e d), d, r⟩
  have kin : K.In (hidT s1.heap H) := by
    intro b o e
    refine hidT_get (KX b o e) ?_
    cases q : H b with
    | none => rfl
    | some u =>
      obtain rfl := hA b (by rw [q]; exact nofun)
      rw [hK (by rw [q]; exact nofun)] at e
      cases e
  have mod : Mod K mg (hidT s1.heap H) := by
    obtain ⟨mc, z1, z2⟩ := hlim
    exact ⟨kin, hid hns, ⟨mb, hid hb, hbb⟩, mc, hid z1, z2⟩
  have e0 : Env0 P w K mg (hidT s1.heap H) callerA [] s1 H := by
    refine ⟨rfl, mod, fun b o e => of_hidT e, Nat.le_of_eq (hidT_size _ _), trivial, fun b z => ?_, hok, .of_eq hg⟩
    exact absurd (show b ∈ ([] : List Addr) from z) List.not_mem_nil
  refine codeAny_mono ((F _ kin (hid hns)).run callerA [] s1 H ⟨[.ref a], []⟩ [.ref a] [.ref a] _ _ rfl hr e0 (hbind s1 (.ref a)) (.cons rfl .nil) hsp) fun r s' h => ?_
  rcases r with e | fl
  · exact False.elim h
  cases fl with
  | ret u =>
    obtain ⟨v, H', os, bare, un, hok', rv, q⟩ := h
    obtain rfl : v = .bl true := q
    obtain rfl : u = Value.bool true := rv
    refine ⟨rfl, OldK.of_keep fun b o e => ?_, os, bare⟩
    rcases hO b with z | ⟨ob, xs, z⟩
    · exact un.keep b o e z (fun y => absurd (show b ∈ ([] : List Addr) from y) List.not_mem_nil) List.not_mem_nil
    · obtain ⟨e1, _⟩ := hok b _ z
      obtain ⟨e2, _⟩ := hok' b _ (un.frzs b ob _ z)
      exact e2.trans (e1.symm.trans e)
  | next => exact False.elim h
  | brk => exact False.elim h
  | cont => exact False.elim h
theorem law_run (KX : K.In s1.heap) (hns : s1.heap.Ns mainGlobals mg) (hb : s1.heap.Ns builtinsNs mb) (hbb : ∀ y : Str, y ≠ "__name__" → mb y = bootBuiltins y) (hlim : s1.heap.NoLimit) (hg : s1.gens = #[])
    (ha : s1.heap.get? a = some { cls := .type "list", data := .seq vs.toArray }) (hi : IntsAre vs ns) (hl : ns.length ≤ sizeLine) (hr : Room k callerA)
    (F : ∀ base : Heap, K.In base → base.Ns mainGlobals mg → FnOkG P w K mg base CX0 k fa fd [x] sp) (hbind : ∀ (s : Shared) (u : Value), BindsTo s fd ⟨[u], []⟩ [(x, u)])
    (hsp : ∀ H : Hp, SqL K H a (ns.map V.int) → sp [.ref a] H (fun v _ => v = .bl true) fun _ _ _ => False) :
    codeAny (model P w) callerA (.call (.ref fa) ⟨[.ref a], []⟩) (LawEnd s1) s1 := by
  have rv := vals_ints hi
  cases hk : K.lookup a with
  | some o =>
    have e := KX a o hk
    rw [ha] at e
    cases e
    refine law_core KX hns hb hbb hlim hg ha hr F hbind (fun _ => none) (fun _ => .inl rfl) (fun b u z => nomatch (show (none : Option HO) = some u from z)) (fun b z => absurd rfl z) (fun z => absurd rfl z) (hsp _ (.inr ⟨_, vs.toArray, _, hk, rfl, rfl, rfl, ?_, ?_⟩))
    · rw [List.size_toArray, hi.length]; exact hl
    · simpa using rv
  | none =>
    let o : Obj := { cls := .type "list", data := .seq vs.toArray }
    have h1 : ∀ b, b = a → (fun b => if b = a then some (HO.frz o (.lst (ns.map V.int))) else none : Hp) b = some (HO.frz o (.lst (ns.map V.int))) := fun b e => if_pos e
    have h2 : ∀ b, b ≠ a → (fun b => if b = a then some (HO.frz o (.lst (ns.map V.int))) else none : Hp) b = none := fun b e => if_neg e
    generalize (fun b => if b = a then some (HO.frz o (.lst (ns.map V.int))) else none : Hp) = H at h1 h2
    refine law_core KX hns hb hbb hlim hg ha hr F hbind H (fun b => ?_) (fun b u z => ?_) (fun b z => ?_) (fun _ => hk) (hsp H (.inl (.inr ⟨o, h1 a rfl⟩)))
    · rcases Decidable.em (b = a) with e | e
      · exact .inr ⟨_, _, h1 b e⟩
      · exact .inl (h2 b e)
    · rcases Decidable.em (b = a) with e | e
      · rw [h1 b e] at z
        cases z
        subst e
        exact ⟨ha, by rw [List.length_map]; exact hl, vs, _, rv, ha⟩
      · rw [h2 b e] at z
        cases z
    · rcases Decidable.em (b = a) with e | e
      · exact e
      · exact absurd (h2 b e) z
end
theorem walkG {l : PySem.W.OpenLaw} {n k : Nat} {q : Program} {loose : List Str} {XP : (Str → Option Value) → Heap → Prop} {YP : World → Heap → Prop} {d : DefRec} {K : Params → PySem.W.Frag} {sp : PySem.W.Frag → Sp} {x : Str}
    (hn : l.most = some n) (hn2 : n ≤ sizeLine) (hdf : d.params.defaults = []) (hr : Room k callerA) (hY : ∀ (w : World) (h : Heap), YP w h → (K w.params).In h)
    (F : ∀ (w : World) (mg : Str → Option Value) (fa : Addr) (h : Heap), (K w.params).In h → h.Ns mainGlobals mg → mg d.name = some (.ref fa) →
      ∃ fd : FuncData, (∀ (s : Shared) (u : Value), BindsTo s fd ⟨[u], []⟩ [(x, u)]) ∧ ∀ base : Heap, (K w.params).In base → base.Ns mainGlobals mg → FnOkG l.prog w (K w.params) mg base CX0 k fa fd [x] (sp (K w.params)))
    (hsp : ∀ (K : PySem.W.Frag) (H : Hp) (a : Addr) (ns : List Int), ns.length ≤ n → (∀ z ∈ ns, Builtin.Int.intBits z ≤ 1048576) → SqL K H a (ns.map V.int) → sp K [.ref a] H (fun v _ => v = .bl true) fun _ _ _ => False) :
    PySem.W.WalkO q loose XP YP l.row.toRowW d [] (fun f vs => PySem.call f vs) := by
  refine Att.attach_callB hn hdf fun w s₀ s₁ mg mb fa o pm cd doc a vs ns G Y ho hd hcd hmg hobj hints hlen hbits hg => ?_
  obtain ⟨fd, hb, hF⟩ := F w mg fa _ (hY w _ Y) G.T.g hmg
  exact law_run (hY w _ Y) G.T.g G.T.b G.T.builtins G.T.nolimit hg hobj hints (Nat.le_trans hlen hn2) hr hF hb fun H hS => hsp _ H a ns hlen hbits hS
end KX

namespace KX
open PySem PySem.Spec L2
open PyProof.Rows hiding St
/-! the store of draws that every law has -/
def supD (c : Addr) (t b : Int) : List (Key × V) := [(.inr "cells", .ref c), (.inr "turn", .int t), (.inr "blend", .int b)]
theorem kne {x y : Str} (h : x ≠ y) : decide ((Sum.inr x : Key) = Sum.inr y) = false := decide_eq_false fun q => h (Sum.inr.inj q)
theorem keq (x : Str) : decide ((Sum.inr x : Key) = Sum.inr x) = true := decide_eq_true rfl
theorem n1 : ("cells" : Str) ≠ "turn" := by decide +kernel
theorem n2 : ("cells" : Str) ≠ "blend" := by decide +kernel
theorem n3 : ("turn" : Str) ≠ "blend" := by decide +kernel
theorem sup_cells (c : Addr) (t b : Int) : valV (supD c t b) (.inr "cells") = some (.ref c) := by
  unfold valV supD; simp
theorem sup_turn (c : Addr) (t b : Int) : valV (supD c t b) (.inr "turn") = some (.int t) := by
  unfold valV supD; simp [n1]
theorem sup_blend (c : Addr) (t b : Int) : valV (supD c t b) (.inr "blend") = some (.int b) := by
  unfold valV supD; simp [n2, n3]
theorem sup_putT (c : Addr) (t b t' : Int) : putK (supD c t b) (.inr "turn") (.int t') = supD c t' b := by
  unfold supD; simp only [putK]; simp [n1, n3.symm]
theorem sup_putB (c : Addr) (t b b' : Int) : putK (supD c t b) (.inr "blend") (.int b') = supD c t b' := by
  unfold supD; simp only [putK]; simp [n2, n3]
theorem sup_make (c : Addr) (t b : Int) : mergeK [] (supD c t b) = supD c t b := by
  unfold supD mergeK; simp only [List.foldl, putK]; simp [n1, n2, n3]
structure Sup (H : Hp) (d c : Addr) : Prop where
  ex : ∃ (cells : List Int) (t b : Int), H d = some (.dK (supD c t b)) ∧ H c = some (.lst (cells.map V.int)) ∧ cells.length ≤ 63 ∧ 0 ≤ b ∧ b < 2147483647
theorem Sup.ne {H : Hp} {d c : Addr} (h : Sup H d c) : d ≠ c := by
  obtain ⟨_, _, _, h1, h2, _⟩ := h.ex
  exact ne_of h1 h2 (fun z => nomatch z)
/-- all but d and c is as it was -/
def SameX (H H' : Hp) (d c : Addr) : Prop := ∀ b o, b ≠ d → b ≠ c → H b = some o → H' b = some o
theorem SameX.refl (H : Hp) (d c : Addr) : SameX H H d c := fun _ _ _ _ h => h
theorem SameX.trans {H H1 H2 : Hp} {d c : Addr} (a : SameX H H1 d c) (b : SameX H1 H2 d c) : SameX H H2 d c := fun x o h1 h2 h => b x o h1 h2 (a x o h1 h2 h)
theorem SameX.of {H H' : Hp} (d c : Addr) (h : Same H H') : SameX H H' d c := fun b o _ _ e => h b o e
theorem Sup.same {H H' : Hp} {d c : Addr} (h : Sup H d c) (s : Same H H') : Sup H' d c := by
  obtain ⟨cs, t, b, h1, h2, h3⟩ := h.ex
  exact ⟨cs, t, b, s _ _ h1, s _ _ h2, h3⟩
theorem Sup.upd {H : Hp} {d c l : Addr} {o : HO} (h : Sup H d c) (h1 : l ≠ d) (h2 : l ≠ c) : Sup (upd H l o) d c := by
  obtain ⟨cs, t, b, e1, e2, h3⟩ := h.ex
  exact ⟨cs, t, b, by rw [upd_ne h1.symm]; exact e1, by rw [upd_ne h2.symm]; exact e2, h3⟩
theorem Sup.hasD {H : Hp} {d c : Addr} (h : Sup H d c) : H d ≠ none := by
  obtain ⟨cs, t, b, h1, _⟩ := h.ex
  rw [h1]; exact nofun
theorem Sup.hasC {H : Hp} {d c : Addr} (h : Sup H d c) : H c ≠ none := by
  obtain ⟨cs, t, b, _, h1, _⟩ := h.ex
  rw [h1]; exact nofun
theorem same_new {H : Hp} {p : Addr} {o : HO} (h : H p = none) : Same H (upd H p o) := fun b u e => by rw [upd_ne (ne_of_none e h)]; exact e
/-- a draw: 0 ≤ r < m -/
def spTake : Sp := fun vs H Q _ => ∃ (d c : Addr) (m : Int), vs = [.ref d, .int m] ∧ Sup H d c ∧ 0 < m ∧ m < 2 ^ 62 ∧ ∀ (r : Int) (H' : Hp), 0 ≤ r → r < m → Sup H' d c → SameX H H' d c → Q (.int r) H'
/-- a list of at most 63 ints in, the store out -/
def spSupply (K : PySem.W.Frag) : Sp := fun vs H Q _ => ∃ (a : Addr) (ns : List Int), vs = [.ref a] ∧ SqL K H a (ns.map V.int) ∧ ns.length ≤ 63 ∧ ∀ (d c : Addr) (H' : Hp), H d = none → H c = none → Same H H' → Sup H' d c → Q (.ref d) H'
/-- some order of the items -/
def spStir (K : PySem.W.Frag) : Sp := fun vs H Q _ => ∃ (d c a : Addr) (ks : List Int), vs = [.ref d, .ref a] ∧ Sup H d c ∧ SqL K H a (ks.map V.int) ∧ ks.length ≤ 63 ∧
  ∀ (p : Addr) (H' : Hp) (ks' : List Int), ks'.Perm ks → Sup H' d c → SameX H H' d c → H p = none → H' p = some (.lst (ks'.map V.int)) → Q (.ref p) H'
/-- ascending keys -/
def KeysOk (ks : List Int) : Prop := ks.Pairwise (· < ·) ∧ ∀ k ∈ ks, 0 ≤ k ∧ k ≤ 1000000000000
def spKeys : Sp := fun vs H Q _ => ∃ (d c : Addr) (n : Nat), vs = [.ref d, .int (n : Int)] ∧ Sup H d c ∧ 1 ≤ n ∧ n ≤ 30 ∧
  ∀ (p : Addr) (H' : Hp) (ks : List Int), ks.length = n → KeysOk ks → Sup H' d c → SameX H H' d c → H p = none → H' p = some (.lst (ks.map V.int)) → Q (.ref p) H'
/-- a row -/
structure RowOk (row : List Int) : Prop where
  nd : row.Nodup
  key : ∀ k ∈ row, 0 ≤ k ∧ k ≤ 1000000000000
theorem RowOk.of {ks row : List Int} (h : KeysOk ks) (p : row.Perm ks) : RowOk row :=
  ⟨p.nodup_iff.mpr (h.1.imp fun {a b} q => Int.ne_of_lt q), fun k hk => h.2 k (p.mem_iff.mp hk)⟩
def spRow : Sp := fun vs H Q _ => ∃ (d c : Addr) (n : Nat), vs = [.ref d, .int (n : Int)] ∧ Sup H d c ∧ 1 ≤ n ∧ n ≤ 29 ∧
  ∀ (p : Addr) (H' : Hp) (row : List Int), RowOk row → 1 ≤ row.length → row.length ≤ n → Sup H' d c → SameX H H' d c → H p = none → H' p = some (.tup (row.map V.int)) → Q (.ref p) H'
theorem frX {H H' : Hp} {d c b : Addr} (S' : Sup H' d c) (x : SameX H H' d c) (h : H' b = none) : H b = none := by
  cases e : H b with
  | none => rfl
  | some o =>
    rcases Decidable.em (b = d) with z | z
    · exact absurd h (z ▸ S'.hasD)
    · rcases Decidable.em (b = c) with z2 | z2
      · exact absurd h (z2 ▸ S'.hasC)
      · rw [x b o z z2 e] at h; cases h
theorem emod_in {a m : Int} (h : 0 < m) : 0 ≤ a % m ∧ a % m < m := ⟨Int.emod_nonneg a (by omega), Int.emod_lt_of_pos a h⟩
theorem nats62 {m : Int} (h0 : 0 < m) (h : m < 2 ^ 62) : m.natAbs < 2 ^ 62 := by omega
theorem len_pos_cut {xs : List V} : (xs ≠ [] → 0 < xs.length) := List.length_pos_iff.mpr
theorem sup_get {H : Hp} {d : Addr} {kvs : List (Key × V)} {x : Str} {v : V} (hd : H d = some (.dK kvs)) (e : valV kvs (.inr x) = some v) : DGet H d (.str x) (some v) := by
  have h := DGet.k (k := .inr x) hd
  rw [e] at h
  exact h
theorem sup_setT {H : Hp} {d c : Addr} {t b t' : Int} (hd : H d = some (.dK (supD c t b))) : DPut H d (.str "turn") (.int t') (upd H d (.dK (supD c t' b))) := by
  have h := DPut.k (k := .inr "turn") (v := .int t') hd (show 3 < sizeLine by decide)
  rw [sup_putT] at h
  exact h
theorem sup_setB {H : Hp} {d c : Addr} {t b b' : Int} (hd : H d = some (.dK (supD c t b))) : DPut H d (.str "blend") (.int b') (upd H d (.dK (supD c t b'))) := by
  have h := DPut.k (k := .inr "blend") (v := .int b') hd (show 3 < sizeLine by decide)
  rw [sup_putB] at h
  exact h
theorem ix_at {n j : Nat} (h : j < n) : ixN n ((j : Nat) : Int) = some j := by
  unfold ixN; simp; omega
theorem cut_ints (ns : List Int) (lo hi : Option Int) : ∃ ms : List Int, cutV (ns.map V.int) lo hi = ms.map V.int ∧ ms.length ≤ ns.length := by
  unfold cutV
  rw [← List.map_drop, ← List.map_take]
  exact ⟨_, rfl, by rw [List.length_take, List.length_drop]; omega⟩
theorem cut_nat (ks : List Int) (i j : Nat) : cutV (ks.map V.int) (some (i : Int)) (some (j : Int)) = ((ks.take j).drop i).map V.int := by
  unfold cutV
  rw [HT.sIx_nat, HT.sIx_nat, List.map_drop, List.map_take, List.length_map, List.drop_take]
  apply List.ext_getElem?
  intro m
  simp only [List.getElem?_take, List.getElem?_drop, List.getElem?_map]
  by_cases h1 : i ≤ ks.length
  · rw [Nat.min_eq_left h1]
    by_cases h2 : j ≤ ks.length
    · rw [Nat.min_eq_left h2]
    · rw [Nat.min_eq_right (by omega)]
      by_cases h3 : m < ks.length - i
      · rw [if_pos h3, if_pos (by omega)]
      · rw [if_neg h3]
        by_cases h4 : m < j - i
        · rw [if_pos h4, List.getElem?_eq_none (by omega)]; rfl
        · rw [if_neg h4]
  · rw [Nat.min_eq_right (show ks.length ≤ i by omega), if_neg (by omega)]
    by_cases h4 : m < j - i
    · rw [if_pos h4, List.getElem?_eq_none (by omega)]; rfl
    · rw [if_neg h4]
theorem cut_from (ks : List Int) (i : Nat) : cutV (ks.map V.int) (some (i : Int)) none = (ks.drop i).map V.int := by
  have h := cut_nat ks i ks.length
  unfold cutV at h ⊢
  rw [HT.sIx_nat, List.length_map] at h
  rw [HT.sIx_none, List.length_map]
  rw [List.take_length, HT.sIx_nat, Nat.min_self] at h
  rw [HT.sIx_nat]
  exact h
theorem cut_to (ks : List Int) (j : Nat) : cutV (ks.map V.int) none (some (j : Int)) = (ks.take j).map V.int := by
  have h := cut_nat ks 0 j
  rw [List.drop_zero] at h
  unfold cutV at h ⊢
  rw [HT.sIx_none]
  rw [HT.sIx_nat (k := 0), Nat.zero_min] at h
  exact h
theorem pick_ints (ks : List Int) (lo hi st : Option Int) : pickV (ks.map V.int) lo hi st = ((sliceRange (sliceBounds lo hi st ks.length).1 (sliceBounds lo hi st ks.length).2.1 (sliceBounds lo hi st ks.length).2.2).filterMap (ks[·]?)).map V.int := by
  unfold pickV
  rw [List.length_map, List.map_filterMap]
  congr 1
  funext j
  rw [List.getElem?_map]
theorem idx_perm : ∀ n < 31, ((sliceRange (sliceBounds (some 1) none (some 2) n).1 (sliceBounds (some 1) none (some 2) n).2.1 (sliceBounds (some 1) none (some 2) n).2.2 ++
    sliceRange (sliceBounds (some 0) none (some 2) n).1 (sliceBounds (some 0) none (some 2) n).2.1 (sliceBounds (some 0) none (some 2) n).2.2).isPerm (List.range n)) = true := by decide +kernel
theorem range_all (ks : List Int) : (List.range ks.length).filterMap (ks[·]?) = ks := by
  have h : ∀ n, n ≤ ks.length → (List.range n).filterMap (ks[·]?) = ks.take n := by
    intro n
    induction n with
    | zero => intro _; rfl
    | succ n ih =>
      intro hn
      have e : ks[n]? = some ks[n] := List.getElem?_eq_getElem (by omega)
      rw [List.range_succ, List.filterMap_append, ih (by omega), List.filterMap_cons_some e, List.filterMap_nil, List.take_add_one, e]; rfl
  rw [h _ (Nat.le_refl _), List.take_length]
theorem odd_even (ks : List Int) (h : ks.length ≤ 30) : ∃ row : List Int, pickV (ks.map V.int) (some 1) none (some 2) ++ pickV (ks.map V.int) (some 0) none (some 2) = row.map V.int ∧ row.Perm ks := by
  rw [pick_ints, pick_ints, ← List.map_append, ← List.filterMap_append]
  refine ⟨_, rfl, ?_⟩
  have p := (List.isPerm_iff.mp (idx_perm ks.length (by omega))).filterMap (ks[·]?)
  rw [range_all] at p
  exact p
theorem mid_perm (ks : List Int) (j : Nat) : ((ks.take j ++ ((ks.take (j + 3)).drop j).reverse) ++ ks.drop (j + 3)).Perm ks := by
  have e : (ks.take j ++ (ks.take (j + 3)).drop j) ++ ks.drop (j + 3) = ks := by
    have h1 : ks.take j ++ (ks.take (j + 3)).drop j = ks.take (j + 3) := by
      have h2 := List.take_append_drop j (ks.take (j + 3))
      rw [List.take_take, Nat.min_eq_left (by omega)] at h2
      exact h2
    rw [h1, List.take_append_drop]
  have p : ((ks.take j ++ ((ks.take (j + 3)).drop j).reverse) ++ ks.drop (j + 3)).Perm ((ks.take j ++ (ks.take (j + 3)).drop j) ++ ks.drop (j + 3)) :=
    (List.Perm.append_left _ (List.reverse_perm _)).append_right _
  rw [e] at p
  exact p
/-- a comprehension over reversed(t), t a tuple -/
theorem lc_rt {K : PySem.W.Frag} {a : Addr} {xs : List V} {g : TG} {tt : TT} {te : TE} {vs : List Nat} {σ : L2.St} {H1 : Hp} {D : Addr} {Qd : Hp → Prop} (Pv : Nat → Hp → Prop) (h0 : Pv 0 (upd H1 D (.lst []))) (hl : ∀ i H, i ≤ xs.length → Pv i H → SqT K H a xs)
    (hs : ∀ i x H, i < xs.length → xs[xs.length - 1 - i]? = some x → Pv i H → g x (wipe σ vs) H fun σ2 H2 => wipe σ2 vs = wipe σ vs ∧ tt σ2 H2 fun b H3 =>
      if b = true then te σ2 H3 fun y H4 => ∃ acc, H4 D = some (.lst acc) ∧ acc.length < sizeLine ∧ Pv (i + 1) (upd H4 D (.lst (acc ++ [y]))) else Pv (i + 1) H3) (hd : ∀ H, Pv xs.length H → Qd H) :
    ∃ W : Nat → Nat → Hp → Prop, (∃ m, W 0 m (upd H1 D (.lst []))) ∧ ∀ i m H, W i m H →
      ((RT.ItvT K a xs.length).stop i H ∧ Qd H) ∨ ((RT.ItvT K a xs.length).go i H ∧ ∃ Nx : Hp → Prop, (∀ H', Nx H' → ∃ m', m' < m ∧ W (i + 1) m' H') ∧ ∀ x H', (RT.ItvT K a xs.length).yld i H x H' → g x (wipe σ vs) H' fun σ2 H2 => wipe σ2 vs = wipe σ vs ∧ tt σ2 H2 fun b H3 =>
        if b = true then te σ2 H3 fun y H4 => ∃ acc, H4 D = some (.lst acc) ∧ acc.length < sizeLine ∧ Nx (upd H4 D (.lst (acc ++ [y]))) else Nx H3) := by
  refine ⟨fun i m H => m = xs.length - i ∧ i ≤ xs.length ∧ Pv i H, ⟨_, rfl, Nat.zero_le _, h0⟩, ?_⟩
  rintro i m H ⟨rfl, hi, p⟩
  rcases Nat.lt_or_ge i xs.length with lt | ge
  · have q := hl i H hi p
    have e : xs[xs.length - 1 - i]? = some xs[xs.length - 1 - i] := List.getElem?_eq_getElem (by omega)
    refine .inr ⟨⟨lt, xs, _, q, e⟩, Pv (i + 1), fun H' p' => ⟨xs.length - (i + 1), by omega, rfl, lt, p'⟩, ?_⟩
    rintro x H' ⟨rfl, hx⟩
    exact hs i x H' lt (hx xs q) p
  · obtain rfl : i = xs.length := by omega
    exact .inl ⟨ge, hd H p⟩
theorem sameT {K : PySem.W.Frag} {H H' : Hp} {a : Addr} {xs : List V} (e : Same H H') (h : SqT K H a xs) : SqT K H' a xs := by
  rcases h with (h | ⟨o, h⟩) | h
  · exact .inl (.inl (e _ _ h))
  · exact .inl (.inr ⟨o, e _ _ h⟩)
  · exact .inr h
/-- len of a list or tuple -/
def rLenQ (K : PySem.W.Frag) : List V → Hp → VK → Prop := fun xs H Q => ∃ p ys, xs = [.ref p] ∧ (SqL K H p ys ∨ SqT K H p ys) ∧ Q (.int ys.length) H
/-- a pure function of a row -/
def spRowFn (K : PySem.W.Frag) (f : List Int → List Int) : Sp := fun vs H Q _ => ∃ (a : Addr) (row : List Int), vs = [.ref a] ∧ SqT K H a (row.map V.int) ∧ RowOk row ∧ row.length ≤ 29 ∧
  ∀ (p : Addr) (H' : Hp), Same H H' → H p = none → H' p = some (.tup ((f row).map V.int)) → Q (.ref p) H'
theorem getI {ns : List Int} {i : Nat} {y : V} (h : (ns.map V.int)[i]? = some y) : ∃ z, ns[i]? = some z ∧ y = V.int z ∧ i < ns.length := by
  rw [List.getElem?_map] at h
  cases e : ns[i]? with
  | none => rw [e] at h; cases h
  | some z => rw [e] at h; exact ⟨z, rfl, (Option.some.inj h).symm, (List.getElem?_eq_some_iff.mp e).1⟩
theorem take_step {α : Type} {xs : List α} {i : Nat} {x : α} (h : xs[i]? = some x) : xs.take (i + 1) = xs.take i ++ [x] := by
  rw [List.take_add_one, h]; rfl
/-- all that was there stays, at D stands a list -/
def At (H1 H : Hp) (D : Addr) (ys : List V) : Prop := Same H1 H ∧ H D = some (.lst ys)
theorem At.nil {H1 : Hp} {D : Addr} (h : H1 D = none) : At H1 (upd H1 D (.lst [])) D [] := ⟨same_new h, upd_same⟩
theorem At.push {H1 H : Hp} {D : Addr} {ys : List V} (h : H1 D = none) (a : At H1 H D ys) (zs : List V) : At H1 (upd H D (.lst zs)) D zs :=
  ⟨fun b o e => by rw [upd_ne (ne_of_none e h)]; exact a.1 b o e, upd_same⟩
theorem erase_map {α β : Type} (f : α → β) : ∀ (xs : List α) (j : Nat), (xs.map f).eraseIdx j = (xs.eraseIdx j).map f
  | [], _ => rfl
  | _ :: _, 0 => rfl
  | x :: xs, j + 1 => congrArg (f x :: ·) (erase_map f xs j)
theorem erase_perm {α : Type} : ∀ (xs : List α) (j : Nat) (h : j < xs.length), (xs[j] :: xs.eraseIdx j).Perm xs
  | x :: xs, 0, _ => List.Perm.refl _
  | x :: xs, j + 1, h => (List.Perm.swap x _ _).trans ((erase_perm xs j (Nat.lt_of_succ_lt_succ h)).cons x)
/-- data of ints -/
theorem dp_ints {K : PySem.W.Frag} {H : Hp} : ∀ ns : List Int, DpAll K H (ns.map V.int) (ns.map PyData.int)
  | [] => .nil
  | n :: ns => .cons (.int n) (dp_ints ns)
theorem canLay_ints : ∀ ns : List Int, PyData.canLayAll0 (ns.map PyData.int) = true
  | [] => rfl
  | n :: ns => by simp only [List.map_cons, PyData.canLayAll0, PyData.canLay0, canLay_ints ns, Bool.and_self]
theorem depth_ints : ∀ ns : List Int, PyData.depthAll (ns.map PyData.int) = 0
  | [] => rfl
  | n :: ns => by simp only [List.map_cons, PyData.depthAll, PyData.depth, depth_ints ns, Nat.max_self]
theorem shaped_ints (ns : List Int) : SeqAt.shaped (.list (ns.map PyData.int)) = true := by
  simp [SeqAt.shaped, PyData.canLay0, canLay_ints, PyData.depth, depth_ints]
theorem shaped_tints (ns : List Int) : SeqAt.shaped (.tuple (ns.map PyData.int)) = true := by
  simp [SeqAt.shaped, PyData.canLay0, canLay_ints, PyData.depth, depth_ints]
theorem eqv_ints (ns ms : List Int) : PyData.eqv (.list (ns.map PyData.int)) (.list (ms.map PyData.int)) = decide (ns = ms) := by
  simp only [PyData.eqv]; exact PySem.W.ked_eqvAll ns ms
theorem eqv_tints (ns ms : List Int) : PyData.eqv (.tuple (ns.map PyData.int)) (.tuple (ms.map PyData.int)) = decide (ns = ms) := by
  simp only [PyData.eqv]; exact PySem.W.ked_eqvAll ns ms
/-- a list of ints against [], as data -/
theorem nonempty_data {K : PySem.W.Frag} {H : Hp} {a e : Addr} {ns : List Int} {Q : VK} (h1 : SqL K H a (ns.map V.int)) (h2 : SqL K H e []) (q : Q (.bl (!decide (ns = []))) H) : rNeD K (.ref a) (.ref e) H Q := by
  refine ⟨.list (ns.map PyData.int), .list [], .lst h1 (dp_ints ns), .lst h2 .nil, shaped_ints ns, shaped_ints [], ?_⟩
  rw [show PyData.eqv (.list (ns.map PyData.int)) (.list []) = decide (ns = []) from eqv_ints ns []]
  exact q
/-- the last two rows of a draw -/
def tLastDraw : TS := tSeq (sDPut (tVar 0) (tC (V.str "blend"))
    (tOp (rI (fun _ j => 0 < j) fun i j => V.int (i % j)) (tOp (rI0 fun i j => V.int (i + j)) (tOp (rI0 fun i j => V.int (i + j)) (tOp (rI CMul fun i j => V.int (i * j)) (tDGet (tVar 0) (tC (V.str "blend"))) (tC (V.int 48271)))
      (tOp (rI CMul fun i j => V.int (i * j)) (tC (V.int 11)) (tVar 3))) (tC (V.int 5))) (tC (V.int 2147483647))))
  (tRet (tOp (rI (fun _ j => 0 < j) fun i j => V.int (i % j)) (tOp (rI CDiv fun i j => V.int (i / j)) (tOp (rI (fun _ j => 0 < j) fun i j => V.int (i % j))
    (tOp (rI CMul fun i j => V.int (i * j)) (tDGet (tVar 0) (tC (V.str "blend"))) (tDGet (tVar 0) (tC (V.str "blend")))) (tC (V.int 2147483629))) (tC (V.int 32))) (tVar 1)))
theorem last_run {D : Ends} {H H2 : Hp} {d c : Addr} {m t u b2 : Int} {x4 x5 : Option V} {cells : List Int} (hm0 : 0 < m) (hd : H2 d = some (.dK (supD c u b2))) (hc : H2 c = some (.lst (cells.map V.int))) (hl : cells.length ≤ 63) (sx : SameX H H2 d c) (hb0 : 0 ≤ b2) (hb : b2 < 2147483647)
    (k : ∀ (r : Int) (H' : Hp), 0 ≤ r → r < m → Sup H' d c → SameX H H' d c → D.rt (.int r) H') : tLastDraw D [some (.ref d), some (.int m), some (.ref c), some (.int t), x4, x5] H2 := by
  have ndc : d ≠ c := ne_of hd hc (fun z => nomatch z)
  refine ⟨_, rfl, d, _, rfl, sup_get hd (sup_blend c u b2), _, _, rfl, rfl, .inl ⟨by omega, by omega⟩, _, rfl, _, _, rfl, rfl, .inl ⟨by decide, by decide⟩, _, _, rfl, rfl, _, _, rfl, rfl, _, _, rfl, rfl, (by show (0 : Int) < 2147483647; decide), _, rfl, d, _, rfl, sup_setB hd, ?_⟩
  have hb1 := emod_in (a := b2 * 48271 + 11 * t + 5) (m := 2147483647) (by decide)
  generalize (b2 * 48271 + 11 * t + 5) % 2147483647 = b3 at hb1 ⊢
  have hd3 : upd H2 d (.dK (supD c u b3)) d = some (.dK (supD c u b3)) := upd_same
  have hc3 : upd H2 d (.dK (supD c u b3)) c = some (.lst (cells.map V.int)) := by rw [upd_ne ndc.symm]; exact hc
  have sx3 : SameX H (upd H2 d (.dK (supD c u b3))) d c := fun x o h1 h2 e => by rw [upd_ne h1]; exact sx x o h1 h2 e
  refine ⟨_, rfl, d, _, rfl, sup_get hd3 (sup_blend c u b3), _, rfl, d, _, rfl, sup_get hd3 (sup_blend c u b3), _, _, rfl, rfl, .inl ⟨by omega, by omega⟩, _, _, rfl, rfl, (by show (0 : Int) < 2147483629; decide), _, _, rfl, rfl, ⟨by decide, by decide⟩, _, rfl, _, _, rfl, rfl, hm0, ?_⟩
  exact k _ _ (emod_in hm0).1 (emod_in hm0).2 ⟨cells, u, b3, hd3, hc3, hl, hb1.1, hb1.2⟩ sx3
end KX

namespace KX
open PySem PySem.Spec L2
open PyProof.Rows hiding St
/-! data that repr shows -/
structure FineD (d : PyData) (dep B : Nat) : Prop where
  nd : d.hasDict = false
  sh : d.showable = true
  dp : d.depth ≤ dep
  sz : d.shown.length ≤ B
theorem FineD.int {i : Int} (h : i.natAbs < 10 ^ 13) : FineD (.int i) 0 14 := by
  refine ⟨rfl, ?_, Nat.le_refl _, ?_⟩
  · simp only [PyData.showable, decide_eq_true_eq]
    have h2 : i.natAbs < 2 ^ 1920 := Nat.lt_trans h (by decide)
    rcases Nat.eq_zero_or_pos i.natAbs with z | z
    · rw [z]; decide
    · exact (Nat.log2_lt (by omega)).mpr h2
  · show (Str.ofString (toString i)).length ≤ 14
    rw [PySem.ofString_length]; exact int_text_length_le10 (k := 13) (by decide) h
theorem FineD.bool (b : Bool) : FineD (.bool b) 0 5 := ⟨rfl, rfl, Nat.le_refl _, by cases b <;> decide⟩
theorem FineD.none : FineD .none 0 4 := ⟨rfl, rfl, Nat.le_refl _, by decide⟩
theorem FineD.mono {d : PyData} {n m A B : Nat} (h : FineD d n A) (h1 : n ≤ m) (h2 : A ≤ B) : FineD d m B := ⟨h.nd, h.sh, Nat.le_trans h.dp h1, Nat.le_trans h.sz h2⟩
theorem fine_all {dep B : Nat} : ∀ {ds : List PyData}, (∀ d ∈ ds, FineD d dep B) → PyData.hasDictAll ds = false ∧ PyData.showableAll ds = true ∧ PyData.depthAll ds ≤ dep ∧ ((PyData.shownAll ds).map (·.length)).sum ≤ ds.length * B ∧ (PyData.shownAll ds).length = ds.length
  | [], _ => ⟨rfl, rfl, Nat.zero_le _, Nat.zero_le _, rfl⟩
  | d :: ds, h => by
    obtain ⟨a1, a2, a3, a4, a5⟩ := fine_all (ds := ds) fun x hx => h x (List.mem_cons_of_mem _ hx)
    have hd := h d List.mem_cons_self
    refine ⟨by simp only [PyData.hasDictAll, hd.nd, a1, Bool.or_self], by simp only [PyData.showableAll, hd.sh, a2, Bool.and_self], ?_, ?_, by simp only [PyData.shownAll, List.length_cons, a5]⟩
    · simp only [PyData.depthAll]; exact Nat.max_le.mpr ⟨hd.dp, a3⟩
    · simp only [PyData.shownAll, List.map_cons, List.sum_cons, List.length_cons]
      have := hd.sz
      rw [Nat.add_mul]; omega
theorem FineD.tup {ds : List PyData} {dep B : Nat} (h : ∀ d ∈ ds, FineD d dep B) : FineD (.tuple ds) (dep + 1) (ds.length * (B + 2) + 3) := by
  obtain ⟨a1, a2, a3, a4, a5⟩ := fine_all h
  refine ⟨by simp only [PyData.hasDict, a1], by simp only [PyData.showable, a2], by simp only [PyData.depth]; omega, ?_⟩
  have := tupleText_len_le (PyData.shownAll ds)
  rw [a5] at this
  simp only [PyData.shown]
  rw [Nat.mul_add]; omega
theorem FineD.lst {ds : List PyData} {dep B : Nat} (h : ∀ d ∈ ds, FineD d dep B) : FineD (.list ds) (dep + 1) (ds.length * (B + 2) + 3) := by
  obtain ⟨a1, a2, a3, a4, a5⟩ := fine_all h
  refine ⟨by simp only [PyData.hasDict, a1], by simp only [PyData.showable, a2], by simp only [PyData.depth]; omega, ?_⟩
  have := listText_len_le (PyData.shownAll ds)
  rw [a5] at this
  simp only [PyData.shown]
  rw [Nat.mul_add]; omega
/-- a tuple of few small ints -/
theorem fine_row {ns : List Int} (hl : ns.length ≤ 60) (h : ∀ k ∈ ns, k.natAbs < 10 ^ 13) : FineD (.tuple (ns.map PyData.int)) 1 1000 := by
  have := FineD.tup (ds := ns.map PyData.int) (dep := 0) (B := 14) fun d hd => by
    obtain ⟨k, hk, rfl⟩ := List.mem_map.mp hd
    exact .int (h k hk)
  rw [List.length_map] at this
  exact this.mono (Nat.le_refl _) (by omega)
theorem rRepr_of {K : PySem.W.Frag} {H : Hp} {v : V} {d : PyData} {dep B : Nat} {Q : VK} (h : Dp K H v d) (f : FineD d dep B) (h1 : dep ≤ 60) (h2 : B ≤ sizeLine) (q : Q (.str d.shown) H) : rRepr K [v] H Q :=
  ⟨v, d, rfl, h, f.nd, f.sh, Nat.le_trans f.dp h1, Nat.le_trans f.sz h2, q⟩
theorem RowOk.small {row : List Int} (h : RowOk row) : ∀ k ∈ row, k.natAbs < 10 ^ 13 := fun k hk => by
  have := h.key k hk
  omega
end KX

namespace KX
open PySem PySem.Spec L2
open PyProof.Rows hiding St
/-! data with small dicts in it -/
def keyP : Key → PyData
  | .inl i => .int i
  | .inr x => .str x
def KeyAt (k : Key) (v : Value) : Prop := match k with
  | .inl i => ∃ t, v = .int i t
  | .inr x => ∃ t, v = .str x t
def kvA (kvs : List (Key × Int)) : List (Key × V) := kvs.map fun p => (p.1, .int p.2)
def kvD (kvs : List (Key × Int)) : List (PyData × PyData) := kvs.map fun p => (keyP p.1, .int p.2)
mutual
inductive Dq (K : PySem.W.Frag) (H : Hp) : V → PyData → Prop
  | non : Dq K H .non .none
  | bl (b : Bool) : Dq K H (.bl b) (.bool b)
  | int (i : Int) : Dq K H (.int i) (.int i)
  | str (x : Str) : Dq K H (.str x) (.str x)
  | lst {a : Addr} {xs : List V} {ds : List PyData} : SqL K H a xs → DqAll K H xs ds → Dq K H (.ref a) (.list ds)
  | tup {a : Addr} {xs : List V} {ds : List PyData} : SqT K H a xs → DqAll K H xs ds → Dq K H (.ref a) (.tuple ds)
  | dct {a : Addr} {kvs : List (Key × Int)} : H a = some (.dK (kvA kvs)) → Dq K H (.ref a) (.dict (kvD kvs))
inductive DqAll (K : PySem.W.Frag) (H : Hp) : List V → List PyData → Prop
  | nil : DqAll K H [] []
  | cons {v : V} {vs : List V} {d : PyData} {ds : List PyData} : Dq K H v d → DqAll K H vs ds → DqAll K H (v :: vs) (d :: ds)
end
mutual
theorem Dq.same {K : PySem.W.Frag} {H H' : Hp} (s : Same H H') : ∀ {v : V} {d : PyData}, Dq K H v d → Dq K H' v d
  | _, _, .non => .non
  | _, _, .bl b => .bl b
  | _, _, .int i => .int i
  | _, _, .str x => .str x
  | _, _, .lst h a => .lst (s.seq h) (DqAll.same s a)
  | _, _, .tup h a => .tup (sameT s h) (DqAll.same s a)
  | _, _, .dct h => .dct (s _ _ h)
theorem DqAll.same {K : PySem.W.Frag} {H H' : Hp} (s : Same H H') : ∀ {vs : List V} {ds : List PyData}, DqAll K H vs ds → DqAll K H' vs ds
  | _, _, .nil => .nil
  | _, _, .cons h t => .cons (Dq.same s h) (DqAll.same s t)
end
theorem dq_ints {K : PySem.W.Frag} {H : Hp} : ∀ ns : List Int, DqAll K H (ns.map V.int) (ns.map PyData.int)
  | [] => .nil
  | n :: ns => .cons (.int n) (dq_ints ns)
section
variable {X : Cx} {pins : List (Addr × Obj)} {σ : L2.St} {H : Hp} {s : Shared}
/-- the entries of such a dict -/
theorem entries_of : ∀ {kvs : List (Key × Int)} {vs : List (Key × Value)} {es : List DictEntry}, KV (kvA kvs) vs → Pairs (mixKind X.prog X.w) es vs →
    Paired (fun (p : Key × Int) (e : DictEntry) => KeyAt p.1 e.key ∧ ∃ t, e.val = .int p.2 t) kvs es
  | [], _, _, r, q => by
    cases r
    cases q
    exact .nil
  | p :: kvs, _, _, r, q => by
    cases r with
    | cons h t =>
      cases q with
      | cons h1 h2 h3 =>
        obtain ⟨e1, tv, e2⟩ := h
        refine .cons ⟨?_, tv, h2.trans e2⟩ (entries_of t h3)
        rw [← e1] at h1
        obtain ⟨k, z⟩ := p
        cases k with
        | inl i => exact Value.isInt_shape h1
        | inr x => exact Value.isStrOf_shape h1
theorem keys_read {h : Heap} : ∀ {kvs : List (Key × Int)} {es : List DictEntry}, Paired (fun (p : Key × Int) (e : DictEntry) => KeyAt p.1 e.key ∧ ∃ t, e.val = .int p.2 t) kvs es →
    ReadsAll h (es.map (·.key)) ((kvD kvs).map (·.1)) [] ∧ ReadsAll h (es.map (·.val)) ((kvD kvs).map (·.2)) []
  | _, _, .nil => ⟨.nil, .nil⟩
  | (k, z) :: _, _, .cons ⟨h1, ⟨u, h2⟩⟩ r => by
    obtain ⟨q1, q2⟩ := keys_read r
    refine ⟨?_, ?_⟩
    · cases k with
      | inl i =>
        obtain ⟨t, h1⟩ := h1
        exact .cons (as := []) (bs := []) (Eq.mpr (congrArg (fun z => Reads h z _ []) h1) (.int _ t)) q1
      | inr x =>
        obtain ⟨t, h1⟩ := h1
        exact .cons (as := []) (bs := []) (Eq.mpr (congrArg (fun z => Reads h z _ []) h1) (.str _ t)) q1
    · exact .cons (as := []) (bs := []) (Eq.mpr (congrArg (fun z => Reads h z _ []) h2) (.int _ u)) q2
/-- the object of such a dict -/
theorem dict_obj (I : Inv X pins σ H s) {a : Addr} {kvs : List (Key × Int)} (h : H a = some (.dK (kvA kvs))) :
    ∃ o es n, s.heap.get? a = some o ∧ o.cls = .type "dict" ∧ o.data = .dict es n ∧ (a == sysModules) = false ∧ ReadsAll s.heap (es.toList.map (·.key)) ((kvD kvs).map (·.1)) [] ∧ ReadsAll s.heap (es.toList.map (·.val)) ((kvD kvs).map (·.2)) [] := by
  obtain ⟨_, hsys, vs, r, o, es, ep, h1, h2, h3, _, h4, _⟩ := dk_of I.hok h
  obtain ⟨q1, q2⟩ := keys_read (h := s.heap) (entries_of r h4)
  exact ⟨o, es, ep, h1, h2.1, h3, hsys, q1, q2⟩
mutual
theorem Dq.reads (I : Inv X pins σ H s) : ∀ (d : PyData) (v : V) (u : Value), Dq X.K H v d → RelV v u → ∃ as, Reads s.heap u d as
  | .none, _, _, h, r => by cases h; cases r; exact ⟨_, .none⟩
  | .bool b, _, _, h, r => by cases h; cases r; exact ⟨_, .bool b⟩
  | .int i, _, _, h, r => by cases h; obtain ⟨t, rfl⟩ := r; exact ⟨_, .int i t⟩
  | .str x, _, _, h, r => by cases h; obtain ⟨t, rfl⟩ := r; exact ⟨_, .str x t⟩
  | .list ds, _, _, h, r => by
    cases h with
    | lst hs ha =>
      cases r
      obtain ⟨its, rv, ⟨o, n, ho, hc, _, hd⟩, _⟩ := I.list hs
      obtain ⟨as, hr⟩ := DqAll.reads I ds _ its ha rv
      exact ⟨_, .list ho hc hd hr⟩
  | .tuple ds, _, _, h, r => by
    cases h with
    | tup hs ha =>
      cases r
      obtain ⟨its, rv, ⟨o, ho, hc, n, hd⟩, _⟩ := I.tuple hs
      obtain ⟨as, hr⟩ := DqAll.reads I ds _ its ha rv
      exact ⟨_, .tuple ho hc hd hr⟩
  | .dict kd, _, _, h, r => by
    cases h with
    | dct h =>
      cases r
      obtain ⟨o, es, n, h1, h2, h3, _, q1, q2⟩ := dict_obj I h
      exact ⟨_, .dict h1 h2 h3 q1 q2⟩
theorem DqAll.reads (I : Inv X pins σ H s) : ∀ (ds : List PyData) (vs : List V) (us : List Value), DqAll X.K H vs ds → Vals vs us → ∃ as, ReadsAll s.heap us ds as
  | [], _, _, h, r => by cases h; cases r; exact ⟨_, .nil⟩
  | d :: ds, _, _, h, r => by
    cases h with
    | cons h1 h2 =>
      cases r with
      | cons r1 r2 =>
        obtain ⟨as, q1⟩ := Dq.reads I d _ _ h1 r1
        obtain ⟨bs, q2⟩ := DqAll.reads I ds _ _ h2 r2
        exact ⟨_, .cons q1 q2⟩
end
/-- no dict in it: the library's way -/
theorem reprK_flat {h : Heap} {prog : Program} {w : World} {v : Value} {d : PyData} {as : List Addr} (r : Reads h v d as) (hn : d.hasDict = false) (hs : d.showable = true) (hz : d.shown.length ≤ sizeLine) : ∃ bs, ReadAtMost h d.depth bs ∧ ReprK prog w bs h d.depth v d.shown :=
  ReprK.of_reads r hs (PyData.noDict_hsm hn) hz
theorem dict_reprs (I : Inv X pins σ H s) {a : Addr} {kvs : List (Key × Int)} (h : H a = some (.dK (kvA kvs))) (hs : (PyData.dict (kvD kvs)).showable = true) (hz : (PyData.dict (kvD kvs)).shown.length ≤ sizeLine) :
    ∃ o es n, s.heap.get? a = some o ∧ o.cls = .type "dict" ∧ o.data = .dict es n ∧ (a == sysModules) = false ∧ ∃ bs, ReadAtMost s.heap (PyData.depthKv (kvD kvs)) bs ∧ ReprEntriesK X.prog X.w bs s.heap (PyData.depthKv (kvD kvs)) es.toList (PyData.shownKv (kvD kvs)) ∧ ∃ as, Reads s.heap (.ref a) (.dict (kvD kvs)) as := by
  obtain ⟨o, es, n, h1, h2, h3, hsys, q1, q2⟩ := dict_obj I h
  have hz' : (dictText (PyData.shownKv (kvD kvs))).length ≤ sizeLine := by simpa only [PyData.shown] using hz
  obtain ⟨hs1, hs2⟩ := PyData.showableKv_split (kvD kvs) (by simpa [PyData.showable] using hs)
  have flat : ∀ (f : Key × Int → PyData), (∀ p, (f p).hasDict = false) → ∀ l : List (Key × Int), PyData.hasDictAll (l.map f) = false := fun f hf l => by
    induction l with
    | nil => rfl
    | cons p l ih => simp only [List.map_cons, PyData.hasDictAll, hf, ih, Bool.or_self]
  have n1 : PyData.hasDictAll ((kvD kvs).map (·.1)) = false := by unfold kvD; rw [List.map_map]; exact flat _ (fun p => by obtain ⟨k, z⟩ := p; cases k <;> rfl) kvs
  have n2 : PyData.hasDictAll ((kvD kvs).map (·.2)) = false := by unfold kvD; rw [List.map_map]; exact flat _ (fun _ => rfl) kvs
  obtain ⟨b1, hb1, k1⟩ := ReprAllK.of_readsAll (prog := X.prog) (w := X.w) q1 hs1 (fun z => by rw [n1] at z; cases z) (fun t ht => by
    obtain ⟨p, hp, hl⟩ := PyData.shownKv_key_le (kvD kvs) t ht
    exact Nat.le_trans hl (Nat.le_trans (dictText_mem_le hp) hz'))
  obtain ⟨b2, hb2, k2⟩ := ReprAllK.of_readsAll (prog := X.prog) (w := X.w) q2 hs2 (fun z => by rw [n2] at z; cases z) (fun t ht => by
    obtain ⟨p, hp, hl⟩ := PyData.shownKv_val_le (kvD kvs) t ht
    exact Nat.le_trans hl (Nat.le_trans (dictText_mem_le hp) hz'))
  refine ⟨o, es, n, h1, h2, h3, hsys, b1 ++ b2, (hb1.mono (PyData.depthAll_keys_le _)).append (hb2.mono (PyData.depthAll_vals_le _)), ?_, _, .dict h1 h2 h3 q1 q2⟩
  rw [PyData.shownKv_eq]
  exact ReprEntriesK.of_two _ _ _ (k1.more_le (fun _ z => List.mem_append_left _ z) (PyData.depthAll_keys_le _)) (k2.more_le (fun _ z => List.mem_append_right _ z) (PyData.depthAll_vals_le _))
mutual
theorem Dq.reprs (I : Inv X pins σ H s) : ∀ (d : PyData) (v : V) (u : Value), Dq X.K H v d → RelV v u → d.showable = true → d.shown.length ≤ sizeLine → ∃ bs, ReadAtMost s.heap d.depth bs ∧ ReprK X.prog X.w bs s.heap d.depth u d.shown
  | .none, v, u, h, r, hs, hz => by obtain ⟨as, q⟩ := Dq.reads I _ _ _ h r; exact reprK_flat q rfl hs hz
  | .bool b, v, u, h, r, hs, hz => by obtain ⟨as, q⟩ := Dq.reads I _ _ _ h r; exact reprK_flat q rfl hs hz
  | .int i, v, u, h, r, hs, hz => by obtain ⟨as, q⟩ := Dq.reads I _ _ _ h r; exact reprK_flat q rfl hs hz
  | .str x, v, u, h, r, hs, hz => by obtain ⟨as, q⟩ := Dq.reads I _ _ _ h r; exact reprK_flat q rfl hs hz
  | .list ds, v, u, h, r, hs, hz => by
    cases h with
    | @lst a xs ds hl ha =>
      cases r
      obtain ⟨its, rv, ⟨o, n, ho, hc, _, hd⟩, _⟩ := I.list hl
      obtain ⟨as, hr⟩ := DqAll.reads I ds _ its ha rv
      obtain ⟨bs, hb, hk⟩ := DqAll.reprs I ds _ its ha rv (by simpa [PyData.showable] using hs) fun t ht => Nat.le_trans (listText_mem_le ht) (by simpa only [PyData.shown] using hz)
      have q : Reads s.heap (.ref a) (.list ds) _ := .list ho hc hd hr
      have hna : a ∉ bs := not_mem_of_deeper q (by simp only [PyData.depth]; omega) hb
      refine ⟨a :: bs, .cons q (by simp only [PyData.depth]; omega) hb, ?_⟩
      simp only [PyData.depth, PyData.shown]
      cases its with
      | nil =>
        cases rv
        cases ha
        simp only [PyData.shownAll, listText_nil]
        exact ReprK.listEmpty ho hc hd
      | cons y l => exact ReprK.list ho hc hd hna (by simpa using hk.length_eq) fun i z e => hk.item i z (by simpa using e)
  | .tuple ds, v, u, h, r, hs, hz => by
    cases h with
    | @tup a xs ds hl ha =>
      cases r
      obtain ⟨its, rv, ⟨o, ho, hc, n, hd⟩, _⟩ := I.tuple hl
      obtain ⟨as, hr⟩ := DqAll.reads I ds _ its ha rv
      obtain ⟨bs, hb, hk⟩ := DqAll.reprs I ds _ its ha rv (by simpa [PyData.showable] using hs) fun t ht => Nat.le_trans (tupleText_mem_le ht) (by simpa only [PyData.shown] using hz)
      have q : Reads s.heap (.ref a) (.tuple ds) _ := .tuple ho hc hd hr
      have hna : a ∉ bs := not_mem_of_deeper q (by simp only [PyData.depth]; omega) hb
      refine ⟨a :: bs, .cons q (by simp only [PyData.depth]; omega) hb, ?_⟩
      simp only [PyData.depth, PyData.shown]
      exact ReprK.tuple ho hc hd hna hk
  | .dict kd, v, u, h, r, hs, hz => by
    cases h with
    | @dct a kvs h =>
      cases r
      obtain ⟨o, es, n, h1, h2, h3, hsys, bs, hb, hE, as, q⟩ := dict_reprs I h hs hz
      have hna : a ∉ bs := not_mem_of_deeper q (by simp only [PyData.depth]; omega) hb
      refine ⟨a :: bs, .cons q (by simp only [PyData.depth]; omega) hb, ?_⟩
      simp only [PyData.depth, PyData.shown]
      exact ReprK.dict h1 h2 h3 hsys hna hE
theorem DqAll.reprs (I : Inv X pins σ H s) : ∀ (ds : List PyData) (vs : List V) (us : List Value), DqAll X.K H vs ds → Vals vs us → PyData.showableAll ds = true → (∀ t ∈ PyData.shownAll ds, t.length ≤ sizeLine) → ∃ bs, ReadAtMost s.heap (PyData.depthAll ds) bs ∧ ReprAllK X.prog X.w bs s.heap (PyData.depthAll ds) us (PyData.shownAll ds)
  | [], _, _, h, r, _, _ => by
    cases h
    cases r
    exact ⟨[], (fun _ z => nomatch z), .nil⟩
  | d :: ds, _, _, h, r, hs, hz => by
    cases h with
    | cons h1 h2 =>
      cases r with
      | cons r1 r2 =>
        have hs' : d.showable = true ∧ PyData.showableAll ds = true := by simpa [PyData.showableAll] using hs
        obtain ⟨b1, hb1, k1⟩ := Dq.reprs I d _ _ h1 r1 hs'.1 (hz _ (by simp only [PyData.shownAll]; exact List.mem_cons_self))
        obtain ⟨b2, hb2, k2⟩ := DqAll.reprs I ds _ _ h2 r2 hs'.2 fun t ht => hz t (by simp only [PyData.shownAll]; exact List.mem_cons_of_mem _ ht)
        refine ⟨b1 ++ b2, ?_, ?_⟩
        · simp only [PyData.depthAll]
          exact (hb1.mono (Nat.le_max_left _ _)).append (hb2.mono (Nat.le_max_right _ _))
        · simp only [PyData.depthAll, PyData.shownAll]
          exact .cons ((k1.more fun _ z => List.mem_append_left _ z).level_le (Nat.le_max_left _ _)) (k2.more_le (fun _ z => List.mem_append_right _ z) (Nat.le_max_right _ _))
end
end
section
variable {X : Cx}
/-- repr of such data -/
def rReprQ (K : PySem.W.Frag) : List V → Hp → VK → Prop := fun vs H Q => ∃ v d, vs = [v] ∧ Dq K H v d ∧ d.showable = true ∧ d.depth ≤ 60 ∧ d.shown.length ≤ sizeLine ∧ Q (.str d.shown) H
theorem cr_reprQ (hgd : X.A.guards = some []) (hu : X.A.units + 64 < cLine) : CallR X (.builtin "repr") (rReprQ X.K) := by
  intro pins s σ H vs us Q I r ⟨v, d, e, hd, hs, h60, hz, q⟩
  subst e
  obtain ⟨u, rfl, rv⟩ := vals1 r
  have fin : ∀ (h' : Heap) (t : Tok) (tk : Nat), (∀ b o, s.heap.get? b = some o → h'.get? b = some o) → EP X pins σ Q (.str d.shown t) { s with heap := h', toks := tk } := fun h' t tk hk => ⟨.str d.shown, H, I.kept hk, ⟨t, rfl⟩, q⟩
  have fin0 := fin s.heap s.toks (s.toks + 1) fun _ _ z => z
  have hg1 : X.A.in1.guards = some [] := hgd
  cases hd with
  | non => cases rv; exact P.repr_of_none fin0
  | bl b => cases rv; exact P.repr_of_bool (by simpa only [PyData.shown] using fin0)
  | int i => obtain ⟨t, rfl⟩ := rv; exact P.repr_of_int (by simpa [PyData.showable] using hs) (by simpa only [PyData.shown] using fin0)
  | str x => obtain ⟨t, rfl⟩ := rv; exact P.repr_of_str (by simpa only [PyData.shown] using fin0) (by simpa only [PyData.shown] using hz)
  | @lst a xs ds hl ha =>
    cases rv
    obtain ⟨its, rv, ⟨o, n, ho, hc, _, hd⟩, _⟩ := I.list hl
    obtain ⟨as, hr⟩ := DqAll.reads I ds _ its ha rv
    have hz' : (listText (PyData.shownAll ds)).length ≤ sizeLine := by simpa only [PyData.shown] using hz
    obtain ⟨bs, hb, hk⟩ := DqAll.reprs I ds _ its ha rv (by simpa [PyData.showable] using hs) fun t ht => Nat.le_trans (listText_mem_le ht) hz'
    have q2 : Reads s.heap (.ref a) (.list ds) _ := .list ho hc hd hr
    have hna : a ∉ bs := not_mem_of_deeper q2 (by simp only [PyData.depth]; omega) hb
    simp only [PyData.depth] at h60
    simp only [PyData.shown] at fin
    refine call_repr_slot (by omega) ⟨o, ho, hc⟩ F.slot_list_repr.toG ?_
    cases its with
    | nil =>
      cases rv
      cases ha
      exact call_list_repr_empty ⟨o, ho, hc⟩ ho hd ⟨_, _, rfl, by have := fin s.heap s.toks (s.toks + 1) fun _ _ z => z; simpa only [PyData.shownAll, listText_nil] using this⟩
    | cons y l => exact call_list_reprK ho hc hd hna (by simpa using hk.length_eq) (fun i z e => hk.item i z (by simpa using e)) hg1 (fun b _ => Clear.nil b) (by show X.A.units + 1 + (_ + 1) < cLine; omega) (fun _ _ z => z) (fun h' t tk hk' => ⟨_, _, rfl, fin h' t tk hk'⟩) hz'
  | @tup a xs ds hl ha =>
    cases rv
    obtain ⟨its, rv, ⟨o, ho, hc, n, hd⟩, _⟩ := I.tuple hl
    obtain ⟨as, hr⟩ := DqAll.reads I ds _ its ha rv
    have hz' : (tupleText (PyData.shownAll ds)).length ≤ sizeLine := by simpa only [PyData.shown] using hz
    obtain ⟨bs, hb, hk⟩ := DqAll.reprs I ds _ its ha rv (by simpa [PyData.showable] using hs) fun t ht => Nat.le_trans (tupleText_mem_le ht) hz'
    have q2 : Reads s.heap (.ref a) (.tuple ds) _ := .tuple ho hc hd hr
    have hna : a ∉ bs := not_mem_of_deeper q2 (by simp only [PyData.depth]; omega) hb
    simp only [PyData.depth] at h60
    simp only [PyData.shown] at fin
    refine call_repr_slot (by omega) ⟨o, ho, hc⟩ F.slot_tuple_repr ?_
    exact call_tuple_reprK ho hc hd hna hk hg1 (fun b _ => Clear.nil b) (by show X.A.units + 1 + (_ + 1) < cLine; omega) (fun _ _ z => z) (fun h' t tk hk' => ⟨_, _, rfl, fin h' t tk hk'⟩) hz'
  | @dct a kvs h =>
    cases rv
    obtain ⟨o, es, n, h1, h2, h3, hsys, bs, hb, hE, as, q2⟩ := dict_reprs I h hs hz
    have hna : a ∉ bs := not_mem_of_deeper q2 (by simp only [PyData.depth]; omega) hb
    have hz' : (dictText (PyData.shownKv (kvD kvs))).length ≤ sizeLine := by simpa only [PyData.shown] using hz
    simp only [PyData.depth] at h60
    simp only [PyData.shown] at fin
    refine call_repr_slot (by omega) ⟨o, h1, h2⟩ F.slot_dict_repr ?_
    exact call_dict_reprK h1 h2 h3 hsys hna hE hg1 (fun b _ => Clear.nil b) (by show X.A.units + 1 + (_ + 1) < cLine; omega) (fun _ _ z => z) (fun h' t tk hk' => ⟨_, _, rfl, fin h' t tk hk'⟩) hz'
end
end KX

namespace KX
open PySem PySem.Spec L2
open PyProof.Rows hiding St
/-! values beside the store -/
def hideX (H : Hp) (d c z : Addr) : Hp := fun b => if b = d ∨ b = c ∨ b = z then none else H b
theorem hide_at {H : Hp} {d c z b : Addr} (h1 : b ≠ d) (h2 : b ≠ c) (h3 : b ≠ z) : hideX H d c z b = H b := if_neg fun q => q.elim h1 fun q => q.elim h2 h3
theorem hide_of {H : Hp} {d c z b : Addr} {o : HO} (h : hideX H d c z b = some o) : b ≠ d ∧ b ≠ c ∧ b ≠ z ∧ H b = some o := by
  unfold hideX at h
  split at h
  · cases h
  · rename_i q
    exact ⟨fun y => q (.inl y), fun y => q (.inr (.inl y)), fun y => q (.inr (.inr y)), h⟩
theorem hide_same {H : Hp} {d c z : Addr} : Same (hideX H d c z) H := fun _ _ h => (hide_of h).2.2.2
theorem hide_mono {H H' : Hp} {d c z : Addr} (x : SameX H H' d c) : Same (hideX H d c z) (hideX H' d c z) := fun b o h => by
  obtain ⟨h1, h2, h3, h4⟩ := hide_of h
  rw [hide_at h1 h2 h3]
  exact x b o h1 h2 h4
/-- the store, and a thing beside it that is not looked at -/
structure SupE (H : Hp) (d c z : Addr) : Prop where
  s : Sup H d c
  z : H z ≠ none
theorem SupE.of {H : Hp} {d c : Addr} (S : Sup H d c) : SupE H d c d := ⟨S, S.hasD⟩
theorem SupE.next {H H' : Hp} {d c z : Addr} (S : SupE H d c z) (S' : Sup H' d c) (x : SameX H H' d c) : SupE H' d c z := by
  refine ⟨S', fun q => ?_⟩
  rcases Decidable.em (z = d) with e | h1
  · exact S'.hasD (e ▸ q)
  rcases Decidable.em (z = c) with e | h2
  · exact S'.hasC (e ▸ q)
  cases e : H z with
  | none => exact S.z e
  | some o => rw [x z o h1 h2 e] at q; cases q
theorem hide_new {H : Hp} {d c z p : Addr} {o : HO} (S : SupE H d c z) (h : H p = none) : hideX (upd H p o) d c z p = some o := by
  have h1 : p ≠ d := fun q => S.s.hasD (q ▸ h)
  have h2 : p ≠ c := fun q => S.s.hasC (q ▸ h)
  have h3 : p ≠ z := fun q => S.z (q ▸ h)
  rw [hide_at h1 h2 h3]; exact upd_same
theorem new_step {H : Hp} {d c z p : Addr} {o : HO} (S : SupE H d c z) (h : H p = none) : SupE (upd H p o) d c z ∧ SameX H (upd H p o) d c ∧ hideX (upd H p o) d c z p = some o :=
  ⟨S.next (S.s.same (same_new h)) (.of d c (same_new h)), .of d c (same_new h), hide_new S h⟩
def Val (K : PySem.W.Frag) (H : Hp) (d c z : Addr) (v : V) (dd : PyData) : Prop := Dq K (hideX H d c z) v dd
theorem Val.mono {K : PySem.W.Frag} {H H' : Hp} {d c z : Addr} {v : V} {dd : PyData} (h : Val K H d c z v dd) (x : SameX H H' d c) : Val K H' d c z v dd := Dq.same (hide_mono x) h
theorem Val.dq {K : PySem.W.Frag} {H : Hp} {d c z : Addr} {v : V} {dd : PyData} (h : Val K H d c z v dd) : Dq K H v dd := Dq.same hide_same h
theorem dqAll_mem {K : PySem.W.Frag} {H : Hp} : ∀ {vs : List V} {ds : List PyData}, DqAll K H vs ds → ∀ v ∈ vs, ∃ dd ∈ ds, Dq K H v dd
  | _, _, .nil, _, h => nomatch h
  | _, _, .cons h t, v, hv => by
    rcases List.mem_cons.mp hv with e | hv
    · subst e; exact ⟨_, List.mem_cons_self, h⟩
    · obtain ⟨dd, h1, h2⟩ := dqAll_mem t v hv
      exact ⟨dd, List.mem_cons_of_mem _ h1, h2⟩
theorem DqAll.app {K : PySem.W.Frag} {H : Hp} : ∀ {vs ws : List V} {ds es : List PyData}, DqAll K H vs ds → DqAll K H ws es → DqAll K H (vs ++ ws) (ds ++ es)
  | _, _, _, _, .nil, h => h
  | _, _, _, _, .cons h t, q => .cons h (DqAll.app t q)
theorem dqAll_len {K : PySem.W.Frag} {H : Hp} : ∀ {vs : List V} {ds : List PyData}, DqAll K H vs ds → vs.length = ds.length
  | _, _, .nil => rfl
  | _, _, .cons _ t => congrArg (· + 1) (dqAll_len t)
/-- what repr asks -/
structure FineQ (d : PyData) (dep B : Nat) : Prop where
  sh : d.showable = true
  dp : d.depth ≤ dep
  sz : d.shown.length ≤ B
theorem FineD.q {d : PyData} {n B : Nat} (h : FineD d n B) : FineQ d n B := ⟨h.sh, h.dp, h.sz⟩
theorem FineQ.mono {d : PyData} {n m A B : Nat} (h : FineQ d n A) (h1 : n ≤ m) (h2 : A ≤ B) : FineQ d m B := ⟨h.sh, Nat.le_trans h.dp h1, Nat.le_trans h.sz h2⟩
theorem fineq_all {dep B : Nat} : ∀ {ds : List PyData}, (∀ d ∈ ds, FineQ d dep B) → PyData.showableAll ds = true ∧ PyData.depthAll ds ≤ dep ∧ ((PyData.shownAll ds).map (·.length)).sum ≤ ds.length * B ∧ (PyData.shownAll ds).length = ds.length
  | [], _ => ⟨rfl, Nat.zero_le _, Nat.zero_le _, rfl⟩
  | d :: ds, h => by
    obtain ⟨a2, a3, a4, a5⟩ := fineq_all (ds := ds) fun x hx => h x (List.mem_cons_of_mem _ hx)
    have hd := h d List.mem_cons_self
    refine ⟨by simp only [PyData.showableAll, hd.sh, a2, Bool.and_self], ?_, ?_, by simp only [PyData.shownAll, List.length_cons, a5]⟩
    · simp only [PyData.depthAll]; exact Nat.max_le.mpr ⟨hd.dp, a3⟩
    · simp only [PyData.shownAll, List.map_cons, List.sum_cons, List.length_cons]
      have := hd.sz
      rw [Nat.add_mul]; omega
theorem FineQ.tup {ds : List PyData} {dep B : Nat} (h : ∀ d ∈ ds, FineQ d dep B) : FineQ (.tuple ds) (dep + 1) (ds.length * (B + 2) + 3) := by
  obtain ⟨a2, a3, a4, a5⟩ := fineq_all h
  refine ⟨by simp only [PyData.showable, a2], by simp only [PyData.depth]; omega, ?_⟩
  have := tupleText_len_le (PyData.shownAll ds)
  rw [a5] at this
  simp only [PyData.shown]
  rw [Nat.mul_add]; omega
theorem FineQ.lst {ds : List PyData} {dep B : Nat} (h : ∀ d ∈ ds, FineQ d dep B) : FineQ (.list ds) (dep + 1) (ds.length * (B + 2) + 3) := by
  obtain ⟨a2, a3, a4, a5⟩ := fineq_all h
  refine ⟨by simp only [PyData.showable, a2], by simp only [PyData.depth]; omega, ?_⟩
  have := listText_len_le (PyData.shownAll ds)
  rw [a5] at this
  simp only [PyData.shown]
  rw [Nat.mul_add]; omega
/-- types -/
def tyN : PyData → String
  | .none => "NoneType" | .bool _ => "bool" | .int _ => "int" | .str _ => "str" | .list _ => "list" | .tuple _ => "tuple" | .dict _ => "dict"
theorem Dq.ty {K : PySem.W.Frag} {H : Hp} {v : V} {dd : PyData} (h : Dq K H v dd) : TyX K H v (.type (tyN dd)) := by
  cases h with
  | non => exact .base .non
  | bl b => exact .base (.bl b)
  | int i => exact .base (.int i)
  | str x => exact .base (.str x)
  | lst h _ =>
    rcases h with (h | ⟨o, h⟩) | ⟨o, _, _, h, hc, _⟩
    · exact .base (.lst h)
    · exact .base (.frz h)
    · exact .kList h hc
  | tup h _ =>
    rcases h with (h | ⟨o, h⟩) | ⟨o, _, _, h, hc, _⟩
    · exact .base (.tup h)
    · exact .fTuple h
    · exact .kTuple h hc
  | dct h => exact .base (.dK h)
def isIntD : PyData → Bool
  | .bool _ => true | .int _ => true | _ => false
def isBoolD : PyData → Bool
  | .bool _ => true | _ => false
def isTupD : PyData → Bool
  | .tuple _ => true | _ => false
theorem kb_int_NoneType : kitB "NoneType" "int" = some false := by decide +kernel
theorem kb_int_bool : kitB "bool" "int" = some true := by decide +kernel
theorem kb_int_int : kitB "int" "int" = some true := by decide +kernel
theorem kb_int_str : kitB "str" "int" = some false := by decide +kernel
theorem kb_int_list : kitB "list" "int" = some false := by decide +kernel
theorem kb_int_tuple : kitB "tuple" "int" = some false := by decide +kernel
theorem kb_int_dict : kitB "dict" "int" = some false := by decide +kernel
theorem kit_int {K : PySem.W.Frag} : ∀ dd : PyData, PySem.W.kitOne K (.type (tyN dd)) (.type "int") = some (isIntD dd)
  | .none => kit_ty kb_int_NoneType | .bool _ => kit_ty kb_int_bool | .int _ => kit_ty kb_int_int | .str _ => kit_ty kb_int_str | .list _ => kit_ty kb_int_list | .tuple _ => kit_ty kb_int_tuple | .dict _ => kit_ty kb_int_dict
theorem kb_bool_NoneType : kitB "NoneType" "bool" = some false := by decide +kernel
theorem kb_bool_bool : kitB "bool" "bool" = some true := by decide +kernel
theorem kb_bool_int : kitB "int" "bool" = some false := by decide +kernel
theorem kb_bool_str : kitB "str" "bool" = some false := by decide +kernel
theorem kb_bool_list : kitB "list" "bool" = some false := by decide +kernel
theorem kb_bool_tuple : kitB "tuple" "bool" = some false := by decide +kernel
theorem kb_bool_dict : kitB "dict" "bool" = some false := by decide +kernel
theorem kit_bool {K : PySem.W.Frag} : ∀ dd : PyData, PySem.W.kitOne K (.type (tyN dd)) (.type "bool") = some (isBoolD dd)
  | .none => kit_ty kb_bool_NoneType | .bool _ => kit_ty kb_bool_bool | .int _ => kit_ty kb_bool_int | .str _ => kit_ty kb_bool_str | .list _ => kit_ty kb_bool_list | .tuple _ => kit_ty kb_bool_tuple | .dict _ => kit_ty kb_bool_dict
theorem kb_tup_NoneType : kitB "NoneType" "tuple" = some false := by decide +kernel
theorem kb_tup_bool : kitB "bool" "tuple" = some false := by decide +kernel
theorem kb_tup_int : kitB "int" "tuple" = some false := by decide +kernel
theorem kb_tup_str : kitB "str" "tuple" = some false := by decide +kernel
theorem kb_tup_list : kitB "list" "tuple" = some false := by decide +kernel
theorem kb_tup_tuple : kitB "tuple" "tuple" = some true := by decide +kernel
theorem kb_tup_dict : kitB "dict" "tuple" = some false := by decide +kernel
theorem kit_tup {K : PySem.W.Frag} : ∀ dd : PyData, PySem.W.kitOne K (.type (tyN dd)) (.type "tuple") = some (isTupD dd)
  | .none => kit_ty kb_tup_NoneType | .bool _ => kit_ty kb_tup_bool | .int _ => kit_ty kb_tup_int | .str _ => kit_ty kb_tup_str | .list _ => kit_ty kb_tup_list | .tuple _ => kit_ty kb_tup_tuple | .dict _ => kit_ty kb_tup_dict
/-- one of the items -/
def spOne (K : PySem.W.Frag) : Sp := fun vs H Q _ => ∃ (d c z a : Addr) (xs : List V), vs = [.ref d, .ref a] ∧ Sup H d c ∧ SqL K (hideX H d c z) a xs ∧ xs ≠ [] ∧ xs.length ≤ 1000 ∧ ∀ (v : V) (H' : Hp), v ∈ xs → Sup H' d c → SameX H H' d c → Q v H'
/-- keys, as data -/
def keyD : PyData → Bool
  | .int i => decide (0 ≤ i) && decide (i ≤ 1000000000000)
  | _ => false
def spIsKey (K : PySem.W.Frag) : Sp := fun vs H Q _ => ∃ (v : V) (dd : PyData), vs = [v] ∧ Dq K H v dd ∧ Q (.bl (keyD dd)) H
def spIsInt (K : PySem.W.Frag) : Sp := fun vs H Q _ => ∃ (v : V) (dd : PyData), vs = [v, .int 0, .int 1000000000000] ∧ Dq K H v dd ∧ Q (.bl (keyD dd)) H
/-- odd values -/
def oddMenu : List PyData := [.none, .bool true, .bool false, .int (-1), .int 0, .int 1, .int 2, .int 1000000000000, .int 1000000000001, .int (10 ^ 39), .str "", .str "0", .str "sorted",
  .str "late 1 1", .str "0: 1", .tuple [], .list [], .dict [], .tuple [.int 0], .list [.int 1], .tuple [.bool true], .tuple [.int 0, .int 0], .tuple [.tuple [.int 1]], .dict [(.str "a", .int 0)], .tuple [.none, .int 1]]
theorem odd_fine : ∀ dd ∈ oddMenu, FineQ dd 2 60 := by
  have h : oddMenu.all (fun dd => dd.showable && decide (dd.depth ≤ 2) && decide (dd.shown.length ≤ 60)) = true := by decide +kernel
  intro dd hd
  have := List.all_eq_true.mp h dd hd
  simp only [Bool.and_eq_true, decide_eq_true_eq] at this
  exact ⟨this.1.1, this.1.2, this.2⟩
def spOdd (K : PySem.W.Frag) : Sp := fun vs H Q _ => ∃ (d c z : Addr), vs = [.ref d] ∧ SupE H d c z ∧ ∀ (v : V) (dd : PyData) (H' : Hp), dd ∈ oddMenu → Val K H' d c z v dd → SupE H' d c z → SameX H H' d c → Q v H'
end KX

namespace KX
open PySem PySem.Spec L2
open PyProof.Rows hiding St
/-! enumerate(t), t a tuple -/
theorem enumNew {v : Value} {o : Obj} {G : Heap → Prop} (B : Begins v o G) :
    Meets (Builtin.«enumerate.__new__» ⟨[.type "enumerate", v], []⟩) (fun _ R s => G s.heap ∧ R (.ok (.ret (.ref (s.heap.push o).objs.size))) { s with heap := (s.heap.push o).push { cls := .type "enumerate", data := .fields #[.none, .bool false, .ref s.heap.objs.size, rawInt 0, .none, .none] } }) :=
  .of_wp fun prog w A R s h => by
    obtain ⟨hp, g, d, tk, os⟩ := s
    obtain ⟨h1, h2⟩ := h
    have sub := sub_enumerate
    have it : ∀ {A' : Around} {E : Value → Shared → Prop} {Q : Value → Shared → Prop}, Q (.ref hp.objs.size) ⟨hp.push o, g, d, tk, os⟩ → wpAny (model prog w) A' (pyIter v) Q E ⟨hp, g, d, tk, os⟩ := fun q => B.iter prog w _ _ ⟨hp, g, d, tk, os⟩ _ h1 q
    wp_walk using it
    refine wpAny_stack_any fun st => wpAny_pure ?_
    split
    · rename_i c _ _ _ _ _
      cases (c == Value.type "enumerate") <;> (wp_walk using it; exact ⟨_, rfl, h2⟩)
    · wp_walk using it
      exact ⟨_, rfl, h2⟩
theorem enumCall {prog : Program} {w : World} {A : Around} {E : Value → Shared → Prop} {s : Shared} {v : Value} {o : Obj} {G : Heap → Prop} {Q : Value → Shared → Prop} (B : Begins v o G) (h1 : G s.heap)
    (h : ∀ h', IsEnum h' (s.heap.objs.size + 1) s.heap.objs.size 0 .none → h'.get? s.heap.objs.size = some o → (∀ b u, s.heap.get? b = some u → h'.get? b = some u) → Q (.ref (s.heap.objs.size + 1)) { s with heap := h' }) :
    wpAny (model prog w) A (call (.type "enumerate") [v]) Q E s := by
  refine callType_new F.called_enumerate (by decide) (F.typeCall_enumerate_1 _) (F.newCall_enumerate_1 _) (fun obj => F.args_object_init_2 obj _) F.entry_enumerate_new (enumNew B) ⟨h1, ?_⟩
  have hz : (s.heap.push o).objs.size = s.heap.objs.size + 1 := Heap.size_push ..
  have he : IsEnum ((s.heap.push o).push { cls := .type "enumerate", data := .fields #[.none, .bool false, .ref s.heap.objs.size, rawInt 0, .none, .none] }) (s.heap.objs.size + 1) s.heap.objs.size 0 .none := by
    have q := Heap.get?_push_size (s.heap.push o) (o := { cls := .type "enumerate", data := .fields #[.none, .bool false, .ref s.heap.objs.size, rawInt 0, .none, .none] }) rfl
    rw [hz] at q
    exact q
  show _ ∧ _
  rw [hz]
  exact ⟨⟨_, he, rfl⟩, h _ he (Heap.get?_push_of_some _ (Heap.get?_push_size _ B.free)) fun b u x => Heap.get?_push_of_some _ (Heap.get?_push_of_some _ x)⟩
/-- the tuple at a, each item in a new pair -/
def IteT (K : PySem.W.Frag) (a : Addr) : It :=
  ⟨fun i H => ∃ (xs : List V) (x : V), SqT K H a xs ∧ xs[i]? = some x, fun i H v H' => ∃ T x, v = .ref T ∧ H T = none ∧ H' = upd H T (.tup [.int (i : Nat), x]) ∧ ∀ xs, SqT K H a xs → xs[i]? = some x, fun i H => ∃ xs : List V, SqT K H a xs ∧ xs.length = i⟩
theorem turnT {P : Program} {w : World} {K : PySem.W.Frag} {elts : List Expr} {kk : Nat} {tpos : Pos} (a e it : Addr) :
    Turn P w K (.Tuple elts kk tpos) (IteT K a) [e, it] e (fun i h => (∃ old, IsEnum h e it ((i : Nat) : Int) old) ∧ h.IsTupleIter it a i ∧ e ≠ it) where
  mem := List.mem_cons_self
  obj := fun i h st b hb => by
    obtain ⟨⟨old, he⟩, ⟨o, ho, hc, hd⟩, _⟩ := st
    rcases List.mem_cons.mp hb with z | z
    · subst z; exact ⟨_, he, fun v q => nomatch q⟩
    · obtain rfl : b = it := List.mem_singleton.mp z
      exact ⟨o, ho, fun v q => by rw [hd] at q; cases q⟩
  keep := fun i h h' st k => by
    obtain ⟨⟨old, he⟩, hi, hne⟩ := st
    exact ⟨⟨old, k e List.mem_cons_self _ he⟩, hi.at fun o q => k it (List.mem_cons_of_mem _ List.mem_cons_self) o q, hne⟩
  item := by
    intro X hP hw hK hc i pins s σ H E I hf st hg
    subst hP hw hK
    obtain ⟨⟨old, he⟩, hit, hne⟩ := st
    obtain ⟨xs, x, hq, hx⟩ := hg
    obtain ⟨its, rv, tp, hz⟩ := I.tuple hq
    obtain ⟨u, hu, ru⟩ := rv.get hx
    have hea : e ≠ a := fun z => by
      obtain ⟨o, h1, h2, _⟩ := tp
      rw [← z, show s.heap.get? e = some _ from he] at h1
      cases h1
      exact absurd (Value.type.inj h2) (by decide)
    have hia : a ≠ it := fun z => by
      obtain ⟨o, h1, h2, _⟩ := tp
      obtain ⟨o', g1, g2, _⟩ := hit
      rw [z, g1] at h1
      cases h1
      rw [g2] at h2
      exact absurd (Value.type.inj h2) (by decide)
    have hel : e < s.heap.objs.size := Heap.lt_size he
    have hil : it < s.heap.objs.size := by obtain ⟨_, q, _⟩ := hit; exact Heap.lt_size q
    have hui : its[i]? = some u := hu
    have hlt : i < its.toArray.size := by rw [List.size_toArray]; exact (List.getElem?_eq_some_iff.mp hui).1
    have D := Draws.tuple (prog := X.prog) (w := X.w) (A := X.A.in1) (I.ok.hd hc) it a hia its.toArray
    refine wpAny_pyNext_enum_itemD (A := X.A) D he ⟨hit, tp⟩ hlt hne (fun z => by
      rcases List.mem_cons.mp z with z | z
      · exact hne z
      · exact hea (List.mem_singleton.mp z)) fun y h' tk hy ho st' hT hsz hk => ?_
    have ey : y = u := by
      have q : its.toArray[i]? = some u := by simpa using hui
      exact Option.some.inj (hy.symm.trans q)
    subst ey
    refine ⟨_, rfl, wpAny_letOwnedTupleGo_enum (s := { s with heap := h', toks := tk + 1 }) ho fun h'' he' sb => ?_⟩
    have hT2 : h''.get? s.heap.objs.size = some { cls := .type "tuple", data := .seq #[.int i tk, y] } := (sb.2 _ (Nat.ne_of_gt hel)).trans hT
    have I1 : Inv X pins σ (upd H s.heap.objs.size (.tup [.int (i : Nat), x])) { s with heap := h'', toks := tk + 1 } := by
      refine I.turnedNew (ch := [e, it]) (fun b ob hb q => ?_) hf (Nat.le_refl _) (show ObjOk X.prog X.w _ h'' _ (.tup [.int (i : Nat), x]) from ⟨by show 2 ≤ sizeLine; decide, [.int i tk, y], .cons ⟨_, rfl⟩ (.cons ru .nil), ⟨_, hT2, rfl, _, rfl⟩⟩)
      have b1 : b ≠ e := fun z => hb (z ▸ List.mem_cons_self)
      have b2 : b ≠ it := fun z => hb (z ▸ List.mem_cons_of_mem _ List.mem_cons_self)
      exact (sb.2 b b1).trans (hk b ob b1 b2 q)
    refine ⟨.ref s.heap.objs.size, _, I1, rfl, ⟨_, x, rfl, I.hok.fresh (Nat.le_refl _), rfl, fun ys hy => by rw [I.tuple_inj hy hq]; exact hx⟩, ⟨⟨y, by rw [show ((i + 1 : Nat) : Int) = (i : Int) + 1 by omega]; exact he'⟩, st'.1.at fun o q => (sb.2 it (Ne.symm hne)).trans q, hne⟩, fun b hb => ?_⟩
    have hb' : b < s.heap.objs.size := by
      rcases List.mem_cons.mp hb with z | z
      · exact z ▸ hel
      · exact (List.mem_singleton.mp z) ▸ hil
    rw [upd_ne (Nat.ne_of_lt hb')]
    exact (hf b hb).1
  done := by
    intro X hP hw hK hc i pins s σ H E I hf st hg
    subst hP hw hK
    obtain ⟨⟨old, he⟩, hit, hne⟩ := st
    obtain ⟨xs, hq, hx⟩ := hg
    obtain ⟨its, rv, tp, hz⟩ := I.tuple hq
    have hia : a ≠ it := fun z => by
      obtain ⟨o, h1, h2, _⟩ := tp
      obtain ⟨o', g1, g2, _⟩ := hit
      rw [z, g1] at h1
      cases h1
      rw [g2] at h2
      exact absurd (Value.type.inj h2) (by decide)
    obtain ⟨f0, f1, f2, f3, f4, f5⟩ := hf it (List.mem_cons_of_mem _ List.mem_cons_self)
    have D := Draws.tuple (prog := X.prog) (w := X.w) (A := X.A.in1) (I.ok.hd hc) it a hia its.toArray
    have en : i = its.toArray.size := by rw [List.size_toArray, ← rv.length, hx]
    rw [en] at hit
    exact wpAny_pyNext_enum_endD (A := X.A) D he ⟨hit, tp⟩ fun h' eb => ⟨rfl, I.turned (t' := s.toks) (fun b o hb q => eb b o hb q) f0 f1 f3 f4 f5⟩
  self := fun A i s Q E st h => by
    obtain ⟨⟨_, he⟩, _⟩ := st
    exact wpAny_pyIter_enum he h
def iEnumT (K : PySem.W.Frag) (ta : TA) : TI := fun σ H R => ta σ H fun vs H1 => ∃ a xs, vs = [.ref a] ∧ SqT K H1 a xs ∧ R (IteT K a) H1
theorem pi_enumT {X : Cx} {e : Expr} {ta : TA} {p pos tpos : Pos} {elts : List Expr} {kk : Nat} (hg : Gl X "enumerate") (hm : X.mg "enumerate" = none) (ha : PA X [e] ta) (hs : starEach [e] X.env = [(false, eval e X.env)] := by rfl) :
    PI X (.Tuple elts kk tpos) (.Call (.Name "enumerate" p) [e] [] pos) (iEnumT X.K ta) := by
  constructor
  intro pins s σ H R I h
  refine Call_ (ld_blt I hg hm boot_enumerate (PyProof.Rows.callWith_type1 (thn (ha.run pos pins s σ H _ I h) fun us s1 ⟨vs, H1, I1, r1, a, xs, ex, hq, q⟩ => ?_) hs rfl))
  subst ex
  obtain ⟨u, rfl, ru⟩ := vals1 r1
  obtain rfl : u = Value.ref a := ru
  obtain ⟨its, rv, tp, hz⟩ := I1.tuple hq
  refine enumCall (begins_tuple a its.toArray) tp fun h' he hit hk => wpAny_pyIter_enum he ?_
  have I2 : Inv X pins σ H1 { s1 with heap := h' } := I1.kept (t' := s1.toks) hk
  refine ⟨s1.heap.objs.size + 1, [s1.heap.objs.size + 1, s1.heap.objs.size], _, _, H1, rfl, I2, turnT a (s1.heap.objs.size + 1) s1.heap.objs.size, ⟨⟨.none, he⟩, ⟨_, hit, rfl, rfl⟩, Nat.succ_ne_self _⟩, fun b hb => ?_, q⟩
  have hle : s1.heap.objs.size ≤ b := by
    rcases List.mem_cons.mp hb with z | z
    · rw [z]; exact Nat.le_succ _
    · rw [List.mem_singleton.mp z]; exact Nat.le_refl _
  exact I1.fpOk hle (I1.hok.fresh hle)
section
variable {K : PySem.W.Frag} {a : Addr} {xs : List V}
theorem for_enumT {g : TG} {tb : TS} {D : Ends} {σ : L2.St} {H : Hp} (Pv : Nat → L2.St → Hp → Prop) (h0 : Pv 0 σ H) (hl : ∀ i σ H, i ≤ xs.length → Pv i σ H → SqT K H a xs)
    (hs : ∀ i x σ H T, xs[i]? = some x → Pv i σ H → H T = none → g (.ref T) σ (upd H T (.tup [.int (i : Nat), x])) fun σ2 H2 => tb { D with nx := Pv (i + 1), ct := Pv (i + 1), bk := D.nx } σ2 H2) (hd : ∀ σ H, Pv xs.length σ H → D.nx σ H) :
    ∃ W : Nat → Nat → L2.St → Hp → Prop, (∃ m, W 0 m σ H) ∧ ∀ i m σ H, W i m σ H →
      ((IteT K a).stop i H ∧ D.nx σ H) ∨ ((IteT K a).go i H ∧ ∃ N : L2.St → Hp → Prop, (∀ σ' H', N σ' H' → ∃ m', m' < m ∧ W (i + 1) m' σ' H') ∧ ∀ x H', (IteT K a).yld i H x H' → g x σ H' fun σ2 H2 => tb { D with nx := N, ct := N, bk := D.nx } σ2 H2) := by
  refine ⟨fun i m σ H => m = xs.length - i ∧ i ≤ xs.length ∧ Pv i σ H, ⟨_, rfl, Nat.zero_le _, h0⟩, ?_⟩
  rintro i m σ H ⟨rfl, hi, p⟩
  have q := hl i σ H hi p
  rcases Nat.lt_or_ge i xs.length with lt | ge
  · refine .inr ⟨⟨xs, _, q, List.getElem?_eq_getElem lt⟩, Pv (i + 1), fun σ' H' p' => ⟨xs.length - (i + 1), by omega, rfl, lt, p'⟩, ?_⟩
    rintro x H' ⟨T, y, rfl, hT, rfl, hy⟩
    exact hs i y σ H T (hy xs q) p hT
  · obtain rfl : i = xs.length := by omega
    exact .inl ⟨⟨xs, q, rfl⟩, hd σ H p⟩
theorem lc_enumT {g : TG} {tt : TT} {te : TE} {vs : List Nat} {σ : L2.St} {H1 : Hp} {D : Addr} {Qd : Hp → Prop} (Pv : Nat → Hp → Prop) (h0 : Pv 0 (upd H1 D (.lst []))) (hl : ∀ i H, i ≤ xs.length → Pv i H → SqT K H a xs)
    (hs : ∀ i x H T, xs[i]? = some x → Pv i H → H T = none → g (.ref T) (wipe σ vs) (upd H T (.tup [.int (i : Nat), x])) fun σ2 H2 => wipe σ2 vs = wipe σ vs ∧ tt σ2 H2 fun b H3 =>
      if b = true then te σ2 H3 fun y H4 => ∃ acc, H4 D = some (.lst acc) ∧ acc.length < sizeLine ∧ Pv (i + 1) (upd H4 D (.lst (acc ++ [y]))) else Pv (i + 1) H3) (hd : ∀ H, Pv xs.length H → Qd H) :
    ∃ W : Nat → Nat → Hp → Prop, (∃ m, W 0 m (upd H1 D (.lst []))) ∧ ∀ i m H, W i m H →
      ((IteT K a).stop i H ∧ Qd H) ∨ ((IteT K a).go i H ∧ ∃ Nx : Hp → Prop, (∀ H', Nx H' → ∃ m', m' < m ∧ W (i + 1) m' H') ∧ ∀ x H', (IteT K a).yld i H x H' → g x (wipe σ vs) H' fun σ2 H2 => wipe σ2 vs = wipe σ vs ∧ tt σ2 H2 fun b H3 =>
        if b = true then te σ2 H3 fun y H4 => ∃ acc, H4 D = some (.lst acc) ∧ acc.length < sizeLine ∧ Nx (upd H4 D (.lst (acc ++ [y]))) else Nx H3) := by
  refine ⟨fun i m H => m = xs.length - i ∧ i ≤ xs.length ∧ Pv i H, ⟨_, rfl, Nat.zero_le _, h0⟩, ?_⟩
  rintro i m H ⟨rfl, hi, p⟩
  have q := hl i H hi p
  rcases Nat.lt_or_ge i xs.length with lt | ge
  · refine .inr ⟨⟨xs, _, q, List.getElem?_eq_getElem lt⟩, Pv (i + 1), fun H' p' => ⟨xs.length - (i + 1), by omega, rfl, lt, p'⟩, ?_⟩
    rintro x H' ⟨T, y, rfl, hT, rfl, hy⟩
    exact hs i y H T (hy xs q) p hT
  · obtain rfl : i = xs.length := by omega
    exact .inl ⟨⟨xs, q, rfl⟩, hd H p⟩
end
end KX

namespace KX
open PySem PySem.Spec L2
open PyProof.Rows hiding St
/-! t[::-1], t a tuple -/
theorem adjust_rev (n : Nat) : Builtin.Slice.sliceAdjust none none (-1) (n : Int) = ((n : Int) - 1, -1) := rfl
theorem places_rev (n : Nat) : Builtin.Slice.slicePlaces ((n : Int) - 1) (-1) (-1) = n := by
  unfold Builtin.Slice.slicePlaces
  rw [if_neg (by decide)]
  by_cases h : (n : Int) - 1 > -1
  · rw [if_pos h]
    have : ((n : Int) - 1 - -1 - 1) / - -1 + 1 = (n : Int) := by
      rw [show (- -1 : Int) = 1 by rfl, Int.ediv_one]; omega
    rw [this]; omega
  · rw [if_neg h]; omega
theorem range_get {α : Type} (ks : List α) : (List.range ks.length).filterMap (ks[·]?) = ks := by
  have h : ∀ n, n ≤ ks.length → (List.range n).filterMap (ks[·]?) = ks.take n := by
    intro n
    induction n with
    | zero => intro _; rfl
    | succ n ih =>
      intro hn
      have e : ks[n]? = some ks[n] := List.getElem?_eq_getElem (by omega)
      rw [List.range_succ, List.filterMap_append, ih (by omega), List.filterMap_cons_some e, List.filterMap_nil, List.take_add_one, e]; rfl
  rw [h _ (Nat.le_refl _), List.take_length]
theorem filterMap_on {α β : Type} {f g : α → Option β} : ∀ {l : List α}, (∀ x ∈ l, f x = g x) → l.filterMap f = l.filterMap g
  | [], _ => rfl
  | x :: l, h => by
    have ih := filterMap_on (l := l) fun y hy => h y (List.mem_cons_of_mem _ hy)
    have hx := h x List.mem_cons_self
    cases e : f x with
    | none => rw [List.filterMap_cons_none e, List.filterMap_cons_none (hx ▸ e), ih]
    | some b => rw [List.filterMap_cons_some e, List.filterMap_cons_some (hx ▸ e), ih]
theorem pick_rev (xs : Array Value) : ((List.range xs.size).filterMap fun (m : Nat) => xs[(((xs.size : Nat) : Int) - 1 + (m : Int) * (-1)).toNat]?).toArray = xs.toList.reverse.toArray := by
  congr 1
  have e := range_get xs.toList.reverse
  rw [List.length_reverse, Array.length_toList] at e
  rw [← e]
  conv => rhs; rw [e]
  refine (filterMap_on fun m hm => ?_).trans e
  have hm' := List.mem_range.mp hm
  rw [List.getElem?_reverse (by rw [Array.length_toList]; exact hm'), Array.getElem?_toList, Array.length_toList]
  congr 1
  omega
section
variable {prog : Program} {w : World} {A : Around} {E : Value → Shared → Prop} {s : Shared}
theorem sliceApplied_rev {sl : Addr} {t : Tok} {n : Nat} {Q : Int × Int × Nat → Shared → Prop} (hs : s.heap.IsSliceOf sl .none .none (.int (-1) t)) (h : Q ((n : Int) - 1, -1, n) s) :
    wpAny (model prog w) A (Builtin.Slice.sliceApplied (.ref sl) (pure (n : Int))) Q E s := by
  obtain ⟨os, hos, hcs, hds⟩ := id hs
  unfold Builtin.Slice.sliceApplied Builtin.Slice.sliceFields
  refine wpAny_bind (wpAny_bind (wpAny_field hos hds (x := .none) rfl (wpAny_bind (wpAny_field hos hds (x := .none) rfl (wpAny_bind (wpAny_field hos hds (x := .int (-1) t) rfl (wpAny_pure ?_)))))))
  refine wpAny_bind (HT.slicePart_ (.int (-1) t) ?_)
  show wpAny _ _ (if ((-1 : Int) == 0) = true then _ else _) _ _ s
  rw [if_neg (by decide)]
  refine wpAny_bind (HT.slicePart_ .none (wpAny_bind (HT.slicePart_ .none (wpAny_bind (wpAny_pure ?_)))))
  show wpAny _ _ (match Builtin.Slice.sliceAdjust none none (-1) (n : Int) with | (lo, hi) => pure (lo, (-1 : Int), Builtin.Slice.slicePlaces lo hi (-1))) _ _ s
  rw [adjust_rev n]
  show wpAny _ _ (pure (((n : Int) - 1), (-1 : Int), Builtin.Slice.slicePlaces ((n : Int) - 1) (-1) (-1))) _ _ s
  rw [places_rev]
  exact wpAny_pure h
theorem getItem_tuple_rev {t sl : Addr} {items : Array Value} {tk : Tok} {Q : Value → Shared → Prop} (ht : IsTup s.heap t items) (hs : s.heap.IsSliceOf sl .none .none (.int (-1) tk))
    (h : Q (.ref s.heap.objs.size) { s with heap := s.heap.push { cls := .type "tuple", data := .seq items.toList.reverse.toArray } }) (hsz : items.size ≤ sizeLine) : wpAny (model prog w) A (getItem (.ref t) (.ref sl)) Q E s := by
  have htake : sizeOk (.seq items.toList.reverse.toArray) := by
    show items.toList.reverse.toArray.size ≤ sizeLine
    rw [List.size_toArray, List.length_reverse, Array.length_toList]; exact hsz
  obtain ⟨os, hos, hcs, hds⟩ := id hs
  have hTs : s.TypeIs (.ref sl) "slice" := ⟨os, hos, hcs⟩
  unfold getItem
  try with_reducible refine wpAny_holding ?_
  first | refine wpAny_bind (wpAny_pure ?_) | skip
  refine wpAny_bind (wpAny_sequenceKey ht.typeIs (by decide) ?_)
  refine wpAny_bind (wpAny_callSpecial?_slot (name := Str.ofString "__getitem__") ht.typeIs PyProof.Rows.slot_tuple_getitem
    (wpAny_call_entry PyProof.Rows.slot_tuple_getitem ht.typeIs entry_tuple_getitem ?_ (args_tuple_getitem _ _)))
  show wpAny _ _ (Builtin.Tuple.tupleItemsOf (.ref t) >>= _) _ _ s
  refine wpAny_bind (tupleItemsOf_ ht ?_)
  refine wpAny_bind (wpAny_typeOf hTs ?_)
  rw [if_pos (by decide)]
  refine wpAny_bind (sliceApplied_rev hs ?_)
  have hno : ¬ (((((items.size : Nat) : Int) - 1) == 0 && (-1 : Int) == 1 && items.size == items.size) = true) := by
    intro q
    rw [Bool.and_eq_true, Bool.and_eq_true] at q
    exact absurd q.1.2 (by decide)
  show wpAny _ _ (if ((((items.size : Nat) : Int) - 1) == 0 && (-1 : Int) == 1 && items.size == items.size) = true then _ else _) _ _ s
  rw [if_neg hno, pick_rev]
  first
    | exact wpAny_bind (m := Builtin.Tuple.tupleExact _) (wpAny_newObj_type (wpAny_pure ⟨_, rfl, wpAny_pure h⟩) htake)
    | exact wpAny_bind (m := Builtin.Tuple.tupleExact _) (wpAny_newObj_type (wpAny_bind (wpAny_pure (wpAny_pure ⟨_, rfl, wpAny_pure h⟩))) htake)
    | exact wpAny_bind (wpAny_bind (m := Builtin.Tuple.tupleExact _) (wpAny_newObj_type (wpAny_pure (wpAny_pure ⟨_, rfl, wpAny_pure h⟩)) htake))
    | exact wpAny_bind (wpAny_bind (m := Builtin.Tuple.tupleExact _) (wpAny_newObj_type (wpAny_pure ⟨_, rfl, wpAny_pure h⟩) htake))
end
section
variable {X : Cx}
theorem vals_rev : ∀ {xs : List V} {us : List Value}, Vals xs us → Vals xs.reverse us.reverse
  | _, _, .nil => .nil
  | _, _, .cons h t => by
    rw [List.reverse_cons, List.reverse_cons]
    exact (vals_rev t).append (.cons h .nil)
def tRevT (K : PySem.W.Frag) (te : TE) (ts : TO) : TE := fun σ H Q => te σ H fun x H1 => ts σ H1 fun t H4 => t = some (-1) ∧ ∃ a xs, x = .ref a ∧ SqT K H4 a xs ∧ ∀ p, H4 p = none → Q (.ref p) (upd H4 p (.tup xs.reverse))
theorem pe_revT {e s1 : Expr} {te : TE} {ts : TO} {p2 pos : Pos} (he : PE X e te) (hs : PO X (some s1) ts) : PE X (.Subscript e (.Slice none none (some s1) p2) pos) (tRevT X.K te ts) := by
  constructor
  intro pins s σ H Q I h
  refine Subscript_ (thn (he.run pins s σ H _ I h) fun v s1 ⟨x, H1, I1, r1, q1⟩ => ?_)
  refine wpAny_Slice ?_
  rw [evalPart_none]
  refine wpAny_pure (wpAny_pure (thn (hs.run pins s1 σ H1 _ I1 q1) fun vt s4 ⟨t, H4, I4, pt, hn, a, xs, ex, hx, q⟩ => ?_))
  subst ex hn
  cases r1
  cases pt with
  | int i tk =>
  have I5 : Inv X pins σ H4 { s4 with heap := s4.heap.push { cls := .type "slice", data := .fields #[.none, .none, .int (-1) tk] } } := I4.kept (t' := s4.toks) fun b o z => Heap.get?_push_of_some _ z
  obtain ⟨its, r, ht, hz⟩ := I5.tuple hx
  have hlen := r.length
  refine tail_any (ops := [.ref a, .ref s4.heap.objs.size]) ht.typeIs (PyProof.Rows.slot_tuple_getitem.lookup) ?_ (by with_unfolding_all rfl)
  refine getItem_tuple_rev ht (Heap.IsSliceOf.new _ .none .none (.int (-1) tk)) ?_ (by rw [List.size_toArray]; omega)
  refine ⟨.ref _, _, I5.laid (t' := s4.toks) (o := .tup xs.reverse) (fun b o z => Heap.get?_push_of_some _ z) (Nat.le_refl _) ⟨?_, _, vals_rev r, IsTup.new _ _⟩, rfl, q _ (I5.hok.fresh (Nat.le_refl _))⟩
  rw [List.length_reverse]; exact hz
end
end KX

namespace KX
open PySem PySem.Spec L2
open PyProof.Rows hiding St
theorem in_ints (z : Int) : ∀ ns : List Int, inV (.int z) (ns.map V.int) = decide (z ∈ ns)
  | [] => by simp [inV]
  | n :: ns => by
    have ih := in_ints z ns
    unfold inV at ih ⊢
    rw [List.map_cons, List.any_cons, ih]
    by_cases h : n = z
    · subst h; simp [eqV]
    · have h2 : ¬ z = n := fun q => h q.symm
      simp [eqV, h, h2]
theorem flat_ints (ns : List Int) : (ns.map V.int).all flatV = true := by
  rw [List.all_map]; exact List.all_eq_true.mpr fun _ _ => rfl
/-- each value is data that repr shows -/
def AllFine (K : PySem.W.Frag) (H : Hp) (xs : List V) : Prop := ∀ v ∈ xs, ∃ dd, Dq K H v dd ∧ FineQ dd 3 10000
theorem AllFine.same {K : PySem.W.Frag} {H H' : Hp} {xs : List V} (s : Same H H') (h : AllFine K H xs) : AllFine K H' xs := fun v hv => by
  obtain ⟨dd, h1, h2⟩ := h v hv
  exact ⟨dd, h1.same s, h2⟩
theorem AllFine.app {K : PySem.W.Frag} {H : Hp} {xs ys : List V} (h1 : AllFine K H xs) (h2 : AllFine K H ys) : AllFine K H (xs ++ ys) := fun v hv => (List.mem_append.mp hv).elim (h1 v) (h2 v)
theorem AllFine.nil {K : PySem.W.Frag} {H : Hp} : AllFine K H [] := fun _ h => nomatch h
theorem AllFine.cons {K : PySem.W.Frag} {H : Hp} {v : V} {xs : List V} {dd : PyData} (h : Dq K H v dd) (f : FineQ dd 3 10000) (r : AllFine K H xs) : AllFine K H (v :: xs) := fun u hu => by
  rcases List.mem_cons.mp hu with e | hu
  · subst e; exact ⟨dd, h, f⟩
  · exact r u hu
theorem AllFine.sub {K : PySem.W.Frag} {H : Hp} {xs ys : List V} (h : AllFine K H xs) (s : ∀ v ∈ ys, v ∈ xs) : AllFine K H ys := fun v hv => h v (s v hv)
theorem fine_ints {K : PySem.W.Frag} {H : Hp} {ns : List Int} (h : ∀ k ∈ ns, k.natAbs < 10 ^ 13) : AllFine K H (ns.map V.int) := fun v hv => by
  obtain ⟨k, hk, rfl⟩ := List.mem_map.mp hv
  exact ⟨.int k, .int k, (FineD.int (h k hk)).q.mono (by decide) (by decide)⟩
theorem fine_num {i : Int} (h0 : 0 ≤ i) (h : i < 10 ^ 13) : FineQ (.str (Str.ofString (toString i))) 0 200 := by
  obtain ⟨m, rfl⟩ := Int.eq_ofNat_of_zero_le h0
  have hs : ∀ c ∈ (Str.ofString (toString (m : Int))).cps.toList, c < 16 ^ 8 := by
    intro c hc
    rw [PySem.W.KIN.signs_num] at hc
    obtain ⟨ch, _, rfl⟩ := List.mem_map.mp hc
    exact ch.val.toNat_lt
  have h1 := StrLaws.reprText_len _ hs
  have h2 : (Str.ofString (toString (m : Int))).length ≤ 14 := by
    rw [PySem.ofString_length]; exact int_text_length_le10 (k := 13) (by decide) (by omega)
  refine ⟨rfl, Nat.zero_le _, ?_⟩
  show (reprText _).length ≤ 200
  omega
/-- parts that a tuple may have -/
def Part (K : PySem.W.Frag) (H : Hp) (v : V) : Prop := ∃ dd, Dq K H v dd ∧ FineQ dd 2 300
def Parts (K : PySem.W.Frag) (H : Hp) (xs : List V) : Prop := ∀ v ∈ xs, Part K H v
theorem Part.same {K : PySem.W.Frag} {H H' : Hp} {v : V} (s : Same H H') (h : Part K H v) : Part K H' v := by
  obtain ⟨dd, h1, h2⟩ := h
  exact ⟨dd, h1.same s, h2⟩
theorem Parts.same {K : PySem.W.Frag} {H H' : Hp} {xs : List V} (s : Same H H') (h : Parts K H xs) : Parts K H' xs := fun v hv => (h v hv).same s
theorem Parts.app {K : PySem.W.Frag} {H : Hp} {xs ys : List V} (h1 : Parts K H xs) (h2 : Parts K H ys) : Parts K H (xs ++ ys) := fun v hv => (List.mem_append.mp hv).elim (h1 v) (h2 v)
theorem Parts.cons {K : PySem.W.Frag} {H : Hp} {v : V} {xs : List V} (h1 : Part K H v) (h2 : Parts K H xs) : Parts K H (v :: xs) := fun u hu => by
  rcases List.mem_cons.mp hu with e | hu
  · exact e ▸ h1
  · exact h2 u hu
theorem Parts.nil {K : PySem.W.Frag} {H : Hp} : Parts K H [] := fun _ h => nomatch h
theorem Parts.cut {K : PySem.W.Frag} {H : Hp} {xs : List V} {lo hi : Option Int} (h : Parts K H xs) : Parts K H (cutV xs lo hi) := fun v hv => h v (List.mem_of_mem_drop (List.mem_of_mem_take hv))
theorem Parts.ints {K : PySem.W.Frag} {H : Hp} {ns : List Int} (h : ∀ k ∈ ns, k.natAbs < 10 ^ 13) : Parts K H (ns.map V.int) := fun v hv => by
  obtain ⟨k, hk, rfl⟩ := List.mem_map.mp hv
  exact ⟨_, .int k, (FineD.int (h k hk)).q.mono (by decide) (by decide)⟩
theorem Parts.all {K : PySem.W.Frag} {H : Hp} : ∀ {xs : List V}, Parts K H xs → ∃ ds, DqAll K H xs ds ∧ ∀ dd ∈ ds, FineQ dd 2 300
  | [], _ => ⟨[], .nil, fun _ h => nomatch h⟩
  | x :: xs, h => by
    obtain ⟨ds, h1, h2⟩ := Parts.all (xs := xs) fun v hv => h v (List.mem_cons_of_mem _ hv)
    obtain ⟨dd, h3, h4⟩ := h x List.mem_cons_self
    refine ⟨dd :: ds, .cons h3 h1, fun e he => ?_⟩
    rcases List.mem_cons.mp he with z | z
    · exact z ▸ h4
    · exact h2 e z
theorem Parts.tup {K : PySem.W.Frag} {H : Hp} {a : Addr} {xs : List V} (h : Parts K H xs) (hs : SqT K H a xs) (hl : xs.length ≤ 30) : ∃ dd, Dq K H (.ref a) dd ∧ FineQ dd 3 10000 := by
  obtain ⟨ds, h1, h2⟩ := h.all
  refine ⟨_, .tup hs h1, (FineQ.tup h2).mono (by decide) ?_⟩
  have := dqAll_len h1
  have : ds.length * (300 + 2) ≤ 30 * (300 + 2) := Nat.mul_le_mul_right _ (by omega)
  omega
theorem Parts.lst {K : PySem.W.Frag} {H : Hp} {a : Addr} {xs : List V} (h : Parts K H xs) (hs : SqL K H a xs) (hl : xs.length ≤ 30) : ∃ dd, Dq K H (.ref a) dd ∧ FineQ dd 3 10000 := by
  obtain ⟨ds, h1, h2⟩ := h.all
  refine ⟨_, .lst hs h1, (FineQ.lst h2).mono (by decide) ?_⟩
  have := dqAll_len h1
  have : ds.length * (300 + 2) ≤ 30 * (300 + 2) := Nat.mul_le_mul_right _ (by omega)
  omega
/-! slices and sums of tuples beside the store -/
theorem sl_any {K : PySem.W.Frag} {H : Hp} {d c z a : Addr} {xs : List V} {lo hi : Option Int} {Q : VK} (S : SupE H d c z) (hS : SqT K (hideX H d c z) a xs)
    (k : ∀ (q : Addr) (H' : Hp), SupE H' d c z → SameX H H' d c → SqT K (hideX H' d c z) q (cutV xs lo hi) → Q (.ref q) H') : rSlA K (.ref a) lo hi H Q := by
  refine ⟨a, xs, rfl, sameT hide_same hS, fun hw => k a H S (SameX.refl H d c) ?_, fun _ p hp => ?_⟩
  · have : cutV xs lo hi = xs := by unfold cutV; rw [hw.1, hw.2, List.drop_zero, Nat.sub_zero, List.take_length]
    rw [this]; exact hS
  · obtain ⟨S1, x1, f1⟩ := new_step (o := .tup (cutV xs lo hi)) S hp
    exact k p _ S1 x1 (SqT.of f1)
theorem cat_any {K : PySem.W.Frag} {H : Hp} {d c z a b : Addr} {xs ys : List V} {Q : VK} (S : SupE H d c z) (h1 : SqT K (hideX H d c z) a xs) (h2 : SqT K (hideX H d c z) b ys) (hl : xs.length + ys.length ≤ 1000)
    (k : ∀ (q : Addr) (H' : Hp), SupE H' d c z → SameX H H' d c → SqT K (hideX H' d c z) q (xs ++ ys) → Q (.ref q) H') : rCatA K (.ref a) (.ref b) H Q := by
  refine ⟨a, b, xs, ys, rfl, rfl, sameT hide_same h1, sameT hide_same h2, Nat.le_trans hl (by decide), fun e => k b H S (SameX.refl H d c) ?_, fun _ e => k a H S (SameX.refl H d c) ?_, fun _ _ p hp => ?_⟩
  · subst e; exact h2
  · subst e; rw [List.append_nil]; exact h1
  · obtain ⟨S1, x1, f1⟩ := new_step (o := .tup (xs ++ ys)) S hp
    exact k p _ S1 x1 (SqT.of f1)
/-- what stands behind a statement, by a condition -/
theorem cut_seq {t u : TS} {D : Ends} {σ : L2.St} {H : Hp} (P : L2.St → Hp → Prop) (hu : ∀ σ H, P σ H → u D σ H) (ht : ∀ N : L2.St → Hp → Prop, (∀ σ H, P σ H → N σ H) → t { D with nx := N } σ H) : tSeq t u D σ H := ht _ hu
/-! the first error of a value -/
def errAt : Nat → List Int → List PyData → PyData
  | _, _, [] => .none
  | i, bs, d :: ds => match d with
    | .int z => if keyD (.int z) = true then (if z ∈ bs then .tuple [.int i, .str "duplicate"] else errAt (i + 1) (bs ++ [z]) ds) else .tuple [.int i, .str "key"]
    | _ => .tuple [.int i, .str "key"]
def errD : PyData → PyData
  | .tuple ds => if ds.length = 0 ∨ 24 < ds.length then .tuple [.none, .str "length"] else errAt 0 [] ds
  | _ => .tuple [.none, .str "tuple"]
theorem errD_tup {dd : PyData} (h : isTupD dd = false) : errD dd = .tuple [.none, .str "tuple"] := by
  cases dd <;> first | rfl | cases h
theorem errD_len {ds : List PyData} (h : ds.length = 0 ∨ 24 < ds.length) : errD (.tuple ds) = .tuple [.none, .str "length"] := if_pos h
theorem errD_at {ds : List PyData} (h : ¬ (ds.length = 0 ∨ 24 < ds.length)) : errD (.tuple ds) = errAt 0 [] ds := if_neg h
theorem errAt_key {i : Nat} {bs : List Int} {d : PyData} {ds : List PyData} (h : keyD d = false) : errAt i bs (d :: ds) = .tuple [.int i, .str "key"] := by
  cases d with
  | int z => show (if keyD (.int z) = true then _ else _) = _; rw [if_neg (by rw [h]; decide)]
  | _ => rfl
theorem errAt_dup {i : Nat} {bs : List Int} {z : Int} {ds : List PyData} (h : keyD (.int z) = true) (hm : z ∈ bs) : errAt i bs (.int z :: ds) = .tuple [.int i, .str "duplicate"] := by
  show (if keyD (.int z) = true then _ else _) = _
  rw [if_pos h, if_pos hm]
theorem errAt_next {i : Nat} {bs : List Int} {z : Int} {ds : List PyData} (h : keyD (.int z) = true) (hm : z ∉ bs) : errAt i bs (.int z :: ds) = errAt (i + 1) (bs ++ [z]) ds := by
  show (if keyD (.int z) = true then _ else _) = _
  rw [if_pos h, if_neg hm]
def ErrS (r : PyData) : Prop := r = .none ∨ ∃ a s, r = .tuple [a, .str s] ∧ FineQ a 0 14 ∧ FineQ (.str s) 0 14
theorem errAt_shape : ∀ (ds : List PyData) (i : Nat) (bs : List Int), i + ds.length ≤ 1000 → ErrS (errAt i bs ds)
  | [], _, _, _ => .inl rfl
  | d :: ds, i, bs, h => by
    rw [List.length_cons] at h
    have hi : FineQ (.int (i : Int)) 0 14 := (FineD.int (by omega)).q
    cases e : keyD d with
    | false => rw [errAt_key e]; exact .inr ⟨_, _, rfl, hi, ⟨rfl, by decide, by decide +kernel⟩⟩
    | true =>
      cases d with
      | int z =>
        by_cases hm : z ∈ bs
        · rw [errAt_dup e hm]; exact .inr ⟨_, _, rfl, hi, ⟨rfl, by decide, by decide +kernel⟩⟩
        · rw [errAt_next e hm]; exact errAt_shape ds (i + 1) _ (by omega)
      | _ => cases e
theorem errD_shape (dd : PyData) : ErrS (errD dd) := by
  cases e : isTupD dd with
  | false => rw [errD_tup e]; exact .inr ⟨_, _, rfl, FineD.none.q.mono (by decide) (by decide), ⟨rfl, by decide, by decide +kernel⟩⟩
  | true =>
    cases dd with
    | tuple ds =>
      by_cases h : ds.length = 0 ∨ 24 < ds.length
      · rw [errD_len h]; exact .inr ⟨_, _, rfl, FineD.none.q.mono (by decide) (by decide), ⟨rfl, by decide, by decide +kernel⟩⟩
      · rw [errD_at h]; exact errAt_shape ds 0 [] (by omega)
    | _ => cases e
theorem ErrS.fine {r : PyData} (h : ErrS r) : FineQ r 1 100 := by
  rcases h with rfl | ⟨a, s, rfl, h1, h2⟩
  · exact FineD.none.q.mono (by decide) (by decide)
  · refine (FineQ.tup (ds := [a, .str s]) (dep := 0) (B := 14) fun x hx => ?_).mono (by decide) (by show 2 * (14 + 2) + 3 ≤ 100; decide)
    rcases List.mem_cons.mp hx with e | hx
    · subst e; exact h1
    · rw [List.mem_singleton] at hx; subst hx; exact h2
def isNonD : PyData → Bool
  | .none => true
  | _ => false
theorem ErrS.isNon {K : PySem.W.Frag} {H : Hp} {v : V} {r : PyData} (h : ErrS r) (hd : Dq K H v r) : decide (v = .non) = isNonD r := by
  rcases h with rfl | ⟨a, s, rfl, _⟩
  · cases hd; exact decide_eq_true rfl
  · cases hd; exact decide_eq_false (fun z => nomatch z)
/-- the first error, or None -/
def spErr (K : PySem.W.Frag) : Sp := fun vs H Q _ => ∃ (v : V) (dd : PyData), vs = [v] ∧ Dq K H v dd ∧ ∀ (r : V) (H' : Hp), Same H H' → Dq K H' r (errD dd) → Q r H'
def spIsRow (K : PySem.W.Frag) : Sp := fun vs H Q _ => ∃ (v : V) (dd : PyData), vs = [v] ∧ Dq K H v dd ∧ ∀ (H' : Hp), Same H H' → Q (.bl (isNonD (errD dd))) H'
/-- a row bent, and all the values -/
def spBent (K : PySem.W.Frag) : Sp := fun vs H Q _ => ∃ (d c z a : Addr) (row : List Int), vs = [.ref d, .ref a] ∧ SupE H d c z ∧ hideX H d c z a = some (.tup (row.map V.int)) ∧ RowOk row ∧ row.length ≤ 24 ∧
  ∀ (v : V) (dd : PyData) (H' : Hp), Val K H' d c z v dd → FineQ dd 3 10000 → SupE H' d c z → SameX H H' d c → Q v H'
def spVals (K : PySem.W.Frag) : Sp := fun vs H Q _ => ∃ (d c : Addr), vs = [.ref d] ∧ Sup H d c ∧
  ∀ (p : Addr) (xs : List V) (H' : Hp), H' p = some (.lst xs) → xs.length ≤ 100 → AllFine K H' xs → Sup H' d c → SameX H H' d c → Q (.ref p) H'
end KX

namespace DX
open PySem PySem.Spec L2 KX
open PyProof.Rows hiding St
/-! programs as what must hold of plain data: a slot is empty, data that nobody changes, a list of one's own, the store of draws -/
inductive Sl where
  | emp
  | pub (d : PyData)
  | own (ds : List PyData)
  | var (i : Nat)
  | sup
  | supn (n : Nat)
  | dto (ns : List (Int × Int))
abbrev DEnv := List Sl
abbrev DE := DEnv → (Sl → DEnv → Prop) → Prop
abbrev DT := DEnv → (Bool → DEnv → Prop) → Prop
abbrev DA := DEnv → (List Sl → DEnv → Prop) → Prop
structure DEnds where
  nx : DEnv → Prop
  rt : Sl → Prop
  bk : DEnv → Prop := fun _ => False
  ct : DEnv → Prop := fun _ => False
abbrev DS := DEnds → DEnv → Prop
abbrev DG := Sl → DEnv → (DEnv → Prop) → Prop
abbrev DI := DEnv → (List PyData → DEnv → Prop) → Prop
abbrev DF := List Sl → (Sl → Prop) → Prop
abbrev O1 := PyData → (Sl → Prop) → Prop
abbrev O2 := PyData → PyData → (Sl → Prop) → Prop
/-- what a result is read as -/
def rd (δ : DEnv) : Sl → Option PyData
  | .pub d => some d
  | .own ds => some (.list ds)
  | .var i => match δ[i]? with
    | some (.own ds) => some (.list ds)
    | some (.pub d) => some d
    | _ => none
  | _ => none
/-- what a result is, if it is not a name's own list -/
def pubD : Sl → Option PyData
  | .pub d => some d
  | .own ds => some (.list ds)
  | _ => none
/-! expressions -/
def xC (d : PyData) (δ : DEnv) (Q : Sl → DEnv → Prop) : Prop := Q (.pub d) δ
def xV (i : Nat) (δ : DEnv) (Q : Sl → DEnv → Prop) : Prop := match δ[i]? with
  | some (.pub d) => Q (.pub d) δ
  | some (.own _) => Q (.var i) δ
  | some .sup => Q .sup δ
  | some (.supn n) => Q (.supn n) δ
  | _ => False
/-- a list of one's own is let go -/
def pb (δ : DEnv) (i : Nat) : DEnv := match δ[i]? with
  | some (.own ds) => δ.set i (.pub (.list ds))
  | _ => δ
@[simp] def pbs (is : List Nat) (δ : DEnv) : DEnv := is.foldl pb δ
def xP (w : DE) (δ : DEnv) (Q : Sl → DEnv → Prop) : Prop := w δ fun r δ1 => match r with
  | .var i => ∃ d, rd δ1 (.var i) = some d ∧ Q (.pub d) (pb δ1 i)
  | .own ds => Q (.pub (.list ds)) δ1
  | .pub d => Q (.pub d) δ1
  | .sup => Q .sup δ1
  | .supn n => Q (.supn n) δ1
  | .dto _ => False
  | .emp => False
/-- a result that is kept: not a name's list -/
def xQ (w : DE) (δ : DEnv) (Q : Sl → DEnv → Prop) : Prop := w δ fun r δ1 => match r with
  | .var i => ∃ d, rd δ1 (.var i) = some d ∧ Q (.pub d) (pb δ1 i)
  | .own ds => Q (.own ds) δ1
  | .pub d => Q (.pub d) δ1
  | .sup => Q .sup δ1
  | .supn n => Q (.supn n) δ1
  | .dto _ => False
  | .emp => False
def xPs (is : List Nat) (w : DE) (δ : DEnv) (Q : Sl → DEnv → Prop) : Prop := w (pbs is δ) Q
def x1 (f : O1) (wa : DE) (δ : DEnv) (Q : Sl → DEnv → Prop) : Prop := wa δ fun r δ1 => ∃ x, rd δ1 r = some x ∧ f x fun s => Q s δ1
def x2 (f : O2) (wa wb : DE) (δ : DEnv) (Q : Sl → DEnv → Prop) : Prop := wa δ fun r δ1 => wb δ1 fun s δ2 => ∃ x y, rd δ2 r = some x ∧ rd δ2 s = some y ∧ f x y fun z => Q z δ2
def aN (δ : DEnv) (Q : List Sl → DEnv → Prop) : Prop := Q [] δ
def aC (w : DE) (ws : DA) (δ : DEnv) (Q : List Sl → DEnv → Prop) : Prop := w δ fun r δ1 => ws δ1 fun rs δ2 => Q (r :: rs) δ2
def okArg : Sl → Bool
  | .pub _ => true
  | .sup => true
  | _ => false
def xCall (f : DF) (ws : DA) (δ : DEnv) (Q : Sl → DEnv → Prop) : Prop := ws δ fun rs δ1 => rs.all okArg = true ∧ f rs fun r => Q r δ1
@[simp] def pubs : List Sl → Option (List PyData)
  | [] => some []
  | .pub d :: rs => (pubs rs).map (d :: ·)
  | _ => none
def xLst (ws : DA) (δ : DEnv) (Q : Sl → DEnv → Prop) : Prop := ws δ fun rs δ1 => ∃ ds, pubs rs = some ds ∧ ds.length ≤ 10000 ∧ Q (.own ds) δ1
def xTup (ws : DA) (δ : DEnv) (Q : Sl → DEnv → Prop) : Prop := ws δ fun rs δ1 => ∃ ds, pubs rs = some ds ∧ ds.length ≤ 10000 ∧ Q (.pub (.tuple ds)) δ1
def xIf (c : DT) (wa wb : DE) (δ : DEnv) (Q : Sl → DEnv → Prop) : Prop := c δ fun b δ1 => if b = true then wa δ1 Q else wb δ1 Q
def xAnd (wa wb : DE) (δ : DEnv) (Q : Sl → DEnv → Prop) : Prop := wa δ fun r δ1 => ∃ c, rd δ1 r = some (.bool c) ∧ if c = true then wb δ1 Q else Q (.pub (.bool false)) δ1
def xOr (wa wb : DE) (δ : DEnv) (Q : Sl → DEnv → Prop) : Prop := wa δ fun r δ1 => ∃ c, rd δ1 r = some (.bool c) ∧ if c = true then Q (.pub (.bool true)) δ1 else wb δ1 Q
def xNot (wa : DE) (δ : DEnv) (Q : Sl → DEnv → Prop) : Prop := wa δ fun r δ1 => ∃ c, rd δ1 r = some (.bool c) ∧ Q (.pub (.bool (!c))) δ1
/-! tests -/
def tV (w : DE) (δ : DEnv) (Q : Bool → DEnv → Prop) : Prop := w δ fun r δ1 => ∃ c, rd δ1 r = some (.bool c) ∧ Q c δ1
def tAnd' (a b : DT) (δ : DEnv) (Q : Bool → DEnv → Prop) : Prop := a δ fun c δ1 => if c = true then b δ1 Q else Q false δ1
def tOr' (a b : DT) (δ : DEnv) (Q : Bool → DEnv → Prop) : Prop := a δ fun c δ1 => if c = true then Q true δ1 else b δ1 Q
def tNot' (a : DT) (δ : DEnv) (Q : Bool → DEnv → Prop) : Prop := a δ fun c δ1 => Q (!c) δ1
def tYes' (δ : DEnv) (Q : Bool → DEnv → Prop) : Prop := Q true δ
/-! targets -/
def gN (i : Nat) (r : Sl) (δ : DEnv) (Q : DEnv → Prop) : Prop := match r with
  | .pub d => Q (δ.set i (.pub d))
  | .own ds => Q (δ.set i (.own ds))
  | .sup => Q (δ.set i .sup)
  | .var j => ∃ d, rd δ (.var j) = some d ∧ Q ((pb δ j).set i (.pub d))
  | .supn _ => False
  | .dto _ => False
  | .emp => False
def noVar : Sl → Bool
  | .var _ => false
  | _ => true
/-- results, one after another -/
@[simp] def gsl : List DG → List Sl → DEnv → (DEnv → Prop) → Prop
  | [], [], δ, Q => Q δ
  | g :: l, r :: rs, δ, Q => g r δ fun δ1 => gsl l rs δ1 Q
  | _, _, _, _ => False
@[simp] def gs : List DG → List PyData → DEnv → (DEnv → Prop) → Prop
  | [], [], δ, Q => Q δ
  | g :: l, d :: ds, δ, Q => g (.pub d) δ fun δ1 => gs l ds δ1 Q
  | _, _, _, _ => False
def gT (l : List DG) (r : Sl) (δ : DEnv) (Q : DEnv → Prop) : Prop := ∃ ds, rd δ r = some (.tuple ds) ∧ ds.length = l.length ∧ gs l ds δ Q
/-! what is walked -/
def iX (w : DE) (δ : DEnv) (Q : List PyData → DEnv → Prop) : Prop := xP w δ fun r δ1 => ∃ ds, (r = .pub (.list ds) ∨ r = .pub (.tuple ds)) ∧ Q ds δ1
def rngD (lo : Int) (n : Nat) : List PyData := (List.range n).map fun (i : Nat) => PyData.int (lo + (i : Int))
def i62 (i : Int) : Prop := -(2 ^ 62) ≤ i ∧ i < 2 ^ 62
def iR1 (ws : DA) (δ : DEnv) (Q : List PyData → DEnv → Prop) : Prop := ws δ fun rs δ1 => ∃ r j, rs = [r] ∧ rd δ1 r = some (.int j) ∧ i62 j ∧ Q (rngD 0 j.toNat) δ1
def iR2 (ws : DA) (δ : DEnv) (Q : List PyData → DEnv → Prop) : Prop := ws δ fun rs δ1 => ∃ r s i j, rs = [r, s] ∧ rd δ1 r = some (.int i) ∧ rd δ1 s = some (.int j) ∧ i62 i ∧ i62 j ∧ Q (rngD i (j - i).toNat) δ1
def pairs : Nat → List PyData → List PyData
  | _, [] => []
  | n, d :: ds => .tuple [.int (n : Int), d] :: pairs (n + 1) ds
def iE (w : DE) (δ : DEnv) (Q : List PyData → DEnv → Prop) : Prop := xP w δ fun r δ1 => ∃ ds, (r = .pub (.list ds) ∨ r = .pub (.tuple ds)) ∧ Q (pairs 0 ds) δ1
/-! comprehensions -/
@[simp] def wip (δ : DEnv) : List Nat → DEnv
  | [] => δ
  | v :: vs => (wip δ vs).set v .emp
def hid : DEnv → DEnv
  | [] => []
  | .own _ :: δ => .emp :: hid δ
  | .supn _ :: δ => .emp :: hid δ
  | .dto _ :: δ => .emp :: hid δ
  | s :: δ => s :: hid δ
def lcGo (g : DG) (tt : DT) (te : DE) (δ : DEnv) : List PyData → List PyData → (List PyData → Prop) → Prop
  | [], acc, Q => Q acc
  | x :: xs, acc, Q => g (.pub x) δ fun δ1 => tt δ1 fun b δ2 => δ2 = δ1 ∧ if b = true then te δ1 fun r δ3 => δ3 = δ1 ∧ ∃ d, pubD r = some d ∧ lcGo g tt te δ xs (acc ++ [d]) Q else lcGo g tt te δ xs acc Q
def xLc (vs : List Nat) (it : DI) (g : DG) (tt : DT) (te : DE) (δ : DEnv) (Q : Sl → DEnv → Prop) : Prop := it δ fun xs δ1 => xs.length ≤ 10000 ∧ lcGo g tt te (wip (hid δ1) vs) xs [] fun acc => Q (.own acc) δ1
/-! statements -/
def sNx (D : DEnds) (δ : DEnv) : Prop := D.nx δ
def sSeq (a b : DS) (D : DEnds) (δ : DEnv) : Prop := a { D with nx := b D } δ
def sAsg (w : DE) (g : DG) (D : DEnds) (δ : DEnv) : Prop := w δ fun r δ1 => g r δ1 D.nx
def sPar (l : List Nat) (ws : DA) (D : DEnds) (δ : DEnv) : Prop := ws δ fun rs δ1 => rs.length = l.length ∧ rs.all noVar = true ∧ rs.length ≤ 10000 ∧ gsl (l.map gN) rs δ1 D.nx
def sExp (w : DE) (D : DEnds) (δ : DEnv) : Prop := w δ fun _ δ1 => D.nx δ1
def retOf (D : DEnds) (δ1 : DEnv) : Sl → Prop
  | .var i => (match δ1[i]? with
    | some (.own ds) => D.rt (.own ds)
    | some (.pub d) => D.rt (.pub d)
    | _ => False)
  | .emp => False
  | .sup => False
  | .supn _ => False
  | .dto _ => False
  | r => D.rt r
def sRet (w : DE) (D : DEnds) (δ : DEnv) : Prop := w δ fun r δ1 => retOf D δ1 r
def sRetN (D : DEnds) (δ : DEnv) : Prop := D.rt (.pub .none)
def sIf (c : DT) (a b : DS) (D : DEnds) (δ : DEnv) : Prop := c δ fun k δ1 => if k = true then a D δ1 else b D δ1
def sBrk (D : DEnds) (δ : DEnv) : Prop := D.bk δ
def sCnt (D : DEnds) (δ : DEnv) : Prop := D.ct δ
def sNever (_ : DEnds) (_ : DEnv) : Prop := False
def forGo (g : DG) (b : DS) (D : DEnds) : List PyData → DEnv → Prop
  | [], δ => D.nx δ
  | x :: xs, δ => g (.pub x) δ fun δ1 => b { D with nx := forGo g b D xs, ct := forGo g b D xs, bk := D.nx } δ1
def sFor (it : DI) (g : DG) (b : DS) (D : DEnds) (δ : DEnv) : Prop := it δ fun xs δ1 => forGo g b D xs δ1
def whGo (c : DT) (b : DS) (D : DEnds) : Nat → DEnv → Prop
  | 0, _ => False
  | n + 1, δ => c δ fun k δ1 => if k = true then b { D with nx := whGo c b D n, ct := whGo c b D n, bk := D.nx } δ1 else D.nx δ1
def sWhile (c : DT) (b : DS) (D : DEnds) (δ : DEnv) : Prop := ∃ n, whGo c b D n δ
/-! lists of one's own that are changed -/
def lAppend (i : Nat) (w : DE) (δ : DEnv) (Q : Sl → DEnv → Prop) : Prop := (∃ es, δ[i]? = some (.own es)) ∧ xP w δ fun r δ1 => ∃ d ds, r = .pub d ∧ δ1[i]? = some (.own ds) ∧ ds.length < 10000 ∧ Q (.pub .none) (δ1.set i (.own (ds ++ [d])))
def lPop (i : Nat) (δ : DEnv) (Q : Sl → DEnv → Prop) : Prop := ∃ ds d, δ[i]? = some (.own ds) ∧ ds[ds.length - 1]? = some d ∧ Q (.pub d) (δ.set i (.own ds.dropLast))
def lPopAt (i : Nat) (w : DE) (δ : DEnv) (Q : Sl → DEnv → Prop) : Prop := (∃ es, δ[i]? = some (.own es)) ∧ xP w δ fun r δ1 => ∃ j ds k d, r = .pub (.int j) ∧ δ1[i]? = some (.own ds) ∧ ds.length ≤ 10000 ∧ ixN ds.length j = some k ∧ ds[k]? = some d ∧ Q (.pub d) (δ1.set i (.own (ds.eraseIdx k)))
/-- xs[w] = u -/
def gSubL (i : Nat) (w : DE) (r : Sl) (δ : DEnv) (Q : DEnv → Prop) : Prop := (∃ es, δ[i]? = some (.own es)) ∧ ∃ d, pubD r = some d ∧ w δ fun s δ1 => ∃ j ds k, rd δ1 s = some (.int j) ∧ δ1[i]? = some (.own ds) ∧ ixN ds.length j = some k ∧ Q (δ1.set i (.own (ds.set k d)))
def sAug (f : O2) (i : Nat) (w : DE) (D : DEnds) (δ : DEnv) : Prop := ∃ d, δ[i]? = some (.pub d) ∧ w δ fun r δ1 => ∃ y, rd δ1 r = some y ∧ f d y fun s => gN i s δ1 D.nx
def oAddI : O2
  | .int a, .int b, k => k (.pub (.int (a + b)))
  | .str a, .str b, k => a.length + b.length ≤ sizeLine ∧ k (.pub (.str (a ++ b)))
  | _, _, _ => False
end DX

namespace KX
open PySem PySem.Spec L2
open PyProof.Rows hiding St
/-! tuples that have no dict of attributes -/
def BareO (o : Obj) : Prop := o.cls = .type "tuple" ∧ o.dict = none
def BqT (H : Hp) (a : Addr) (xs : List V) : Prop := ∃ o, H a = some (.frz o (.tup xs)) ∧ BareO o
theorem BqT.sq {K : PySem.W.Frag} {H : Hp} {a : Addr} {xs : List V} (h : BqT H a xs) : SqT K H a xs := .inl (.inr ⟨h.choose, h.choose_spec.1⟩)
theorem BqT.same {H H' : Hp} {a : Addr} {xs : List V} (s : Same H H') (h : BqT H a xs) : BqT H' a xs := ⟨h.choose, s _ _ h.choose_spec.1, h.choose_spec.2⟩
theorem BqT.of {H : Hp} {p : Addr} {o : Obj} {xs : List V} (h : BareO o) : BqT (upd H p (.frz o (.tup xs))) p xs := ⟨o, upd_same, h⟩
section
variable {X : Cx} {es : List Expr} {t : TA} {pos : Pos}
/-- what is new is bare -/
abbrev NewT (H : Hp) (xs : List V) (Q : VK) : Prop := ∀ p o, H p = none → BareO o → Q (.ref p) (upd H p (.frz o (.tup xs)))
theorem bare_end {pins : List (Addr × Obj)} {σ : L2.St} {H : Hp} {s : Shared} {Q : VK} {xs : List V} {its : List Value} {tk : Nat} (I : Inv X pins σ H s) (hz : xs.length ≤ sizeLine) (r : Vals xs its) (q : NewT H xs Q) :
    EP X pins σ Q (.ref s.heap.objs.size) { s with heap := s.heap.push { cls := .type "tuple", data := .seq its.toArray }, toks := tk } := by
  have fr := I.hok.fresh (Nat.le_refl s.heap.objs.size)
  exact ⟨.ref s.heap.objs.size, upd H s.heap.objs.size (.frz { cls := .type "tuple", data := .seq its.toArray } (.tup xs)), I.laid (t' := tk) (fun b u z => Heap.get?_push_of_some _ z) (Nat.le_refl _) ⟨Heap.get?_push_size _ rfl, hz, its, r, IsTup.new _ _⟩, rfl, q _ _ fr ⟨rfl, rfl⟩⟩
def tTupB (t : TA) : TE := fun σ H Q => t σ H fun xs H1 => xs.length ≤ sizeLine ∧ NewT H1 xs Q
theorem pe_tupB {x1} (h : PA X es t) : PE X (.Tuple es x1 pos) (tTupB t) :=
  ⟨fun pins s σ H Q I hq => wpAny_Tuple_spliced (thn (h.run pos pins s σ H _ I hq) fun us s1 ⟨xs, H1, I1, r, z, q⟩ => ⟨by rw [← r.length]; exact z, bare_end (tk := s1.toks) I1 z r q⟩)⟩
theorem call_tupB : CallR X (.type "tuple") (fun xs H Q => ∃ p ys, xs = [.ref p] ∧ ((SqL X.K H p ys ∧ NewT H ys Q) ∨ (SqT X.K H p ys ∧ Q (.ref p) H))) := by
  intro pins s σ H xs us Q I r ⟨p, ys, e, h⟩
  subst e
  obtain ⟨u, rfl, ru⟩ := vals1 r
  obtain rfl : u = Value.ref p := ru
  rcases h with ⟨hl, q⟩ | ⟨ht, q⟩
  · obtain ⟨its, rv, pl, hz⟩ := I.list hl
    have n1 := rv.length
    refine call_tuple_list pl.isList (fun h' kp => ?_) (by simp only [List.size_toArray] <;> omega)
    exact bare_end (s := { s with heap := h' }) (tk := s.toks) (I.kept (t' := s.toks) kp) hz rv q
  · obtain ⟨its, _, tp, _⟩ := I.tuple ht
    exact call_tuple_same tp ⟨.ref p, H, I, rfl, q⟩
def rSlB (K : PySem.W.Frag) : V → Option Int → Option Int → Hp → VK → Prop := fun x lo hi H Q => ∃ a xs, x = .ref a ∧ SqT K H a xs ∧
  (HT.sIx xs.length 0 lo = 0 ∧ HT.sIx xs.length xs.length hi = xs.length → Q (.ref a) H) ∧ (¬ (HT.sIx xs.length 0 lo = 0 ∧ HT.sIx xs.length xs.length hi = xs.length) → NewT H (cutV xs lo hi) Q)
theorem sl_tupB : SlR X (rSlB X.K) := by
  intro pins s σ H x v vl vu lo hi sl Q I rx hs pl pu ⟨a, xs, e, hx, q1, q2⟩
  subst e
  cases rx
  obtain ⟨its, r, ht, hz⟩ := I.tuple hx
  have n1 : its.toArray.size = xs.length := by rw [List.size_toArray]; exact r.length.symm
  refine ⟨"tuple", _, PyProof.Rows.slot_tuple_getitem.lookup, ht.typeIs, ?_⟩
  by_cases hw : HT.sIx xs.length 0 lo = 0 ∧ HT.sIx xs.length xs.length hi = xs.length
  · exact getItem_tuple_whole ht hs pl pu (by rw [n1]; exact hw) ⟨.ref a, H, I, rfl, q1 hw⟩
  · refine HT.getItem_tuple_cut ht hs pl pu (by rw [n1]; exact hw) ?_ (by rw [n1]; exact hz)
    rw [n1]
    exact bare_end (tk := s.toks) I (Nat.le_trans (cutV_length xs lo hi) hz) ((r.drop (HT.sIx xs.length 0 lo)).take (HT.sIx xs.length xs.length hi - HT.sIx xs.length 0 lo)) (q2 hw)
def rCatB (K : PySem.W.Frag) : R2 := fun x y H Q => ∃ a b xs ys, x = .ref a ∧ y = .ref b ∧ SqT K H a xs ∧ SqT K H b ys ∧ xs.length + ys.length ≤ sizeLine ∧
  (xs = [] → Q (.ref b) H) ∧ (xs ≠ [] → ys = [] → Q (.ref a) H) ∧ (xs ≠ [] → ys ≠ [] → NewT H (xs ++ ys) Q)
theorem op_catB : OpR X (binaryOp .Add) (rCatB X.K) := by
  intro pins s σ H x y v u Q I rx ry ⟨a, b, xs, ys, e1, e2, ha, hb, hz, q0, q1, q2⟩
  subst e1 e2
  cases rx
  cases ry
  obtain ⟨its, r1, p1, _⟩ := I.tuple ha
  obtain ⟨jts, r2, p2, _⟩ := I.tuple hb
  by_cases hx : xs = []
  · subst hx
    cases r1
    exact cat_tup0 p1 p2 ⟨.ref b, H, I, rfl, q0 rfl⟩
  · refine HT.cat_tup p1 p2 (fun z => hx (r1.nil_iff.mp z)) (fun z => ⟨.ref a, H, I, rfl, q1 hx (r2.nil_iff.mp z)⟩) (fun z => ?_) (by rw [← r1.length, ← r2.length]; exact hz)
    exact bare_end (tk := s.toks) I (by rw [List.length_append]; exact hz) (r1.append r2) (q2 hx fun w => z (r2.nil_iff.mpr w))
/-! t.index(k): ints, k among them -/
def tIdxB (K : PySem.W.Frag) (to : TE) (te : TE) : TE := fun σ H Q => to σ H fun x H1 => ∃ (a : Addr) (ns : List Int), x = .ref a ∧ BqT H1 a (ns.map V.int) ∧ te σ H1 fun y H2 => ∃ k : Int, [y] = [V.int k] ∧ SqT K H2 a (ns.map V.int) ∧ k ∈ ns ∧ Q (.int (ns.idxOf k : Nat)) H2
theorem pe_idxB {o e : Expr} {to te : TE} {apos cpos : Pos} (ho : PE X o to) (he : PE X e te) (hbase : attributeBase o "index" X.env (eval o X.env) = eval o X.env := by rfl)
    (hfew : ((backTo cpos (starEach [e] X.env)).all (fun x => !x.1) && (backToKw cpos (keywordEach [] X.env)).all (fun x => x.1.isSome)
      && decide ([e].length + ([] : List Keyword).length + (if ([] : List Keyword).isEmpty then 0 else 1) < 30)) = true := by rfl)
    (hline : (apos.endLine == cpos.line) = true := by rfl) (hs : starEach [e] X.env = (false, eval e X.env) :: starEach [] X.env := by rfl) (hplain : (backTo cpos (starEach [] X.env)).any (·.1) = false := by rfl) :
    PE X (.Call (.Attribute o "index" apos) [e] [] cpos) (tIdxB X.K to te) := by
  refine ⟨fun pins s σ H Q I h => ?_⟩
  refine wpAny_Call_method_late hbase hfew hline rfl (thn (ho.run pins s σ H _ I h) fun v s1 ⟨x, H1, I1, r1, a, ns, ex, bq, q1⟩ => ?_)
  subst ex
  obtain rfl : v = Value.ref a := r1
  obtain ⟨ob, hob, hc, hd⟩ := bq
  obtain ⟨hg, _⟩ := (show ObjOk X.prog X.w H1 s1.heap a (.frz ob (.tup (ns.map V.int))) from I1.hok a _ hob)
  refine ⟨"tuple", "tuple.index", F.plainAttrs_tuple, F.slot_tuple_index, F.type_tuple_index, ⟨ob, hg, hc⟩, fun b eb => by cases eb; exact ⟨ob, hg, hd⟩, ?_⟩
  have hA := (pa_cons he pa_nil hs).run cpos pins s1 σ H1 (fun vs H2 => ∃ k : Int, vs = [V.int k] ∧ SqT X.K H2 a (ns.map V.int) ∧ k ∈ ns ∧ Q (.int (ns.idxOf k : Nat)) H2) I1 q1
  rw [hs] at hA ⊢
  refine Calls.callWith_builtin (by show (false || (backTo cpos (starEach [] X.env)).any (·.1)) = false; rw [hplain] <;> rfl) (Calls.evalArgs_plain ?_)
  refine thn hA fun us s2 ⟨vs, H2, I2, r2, k, ev, hsq, hk, q2⟩ => ?_
  subst ev
  obtain ⟨w, rfl, t, rfl⟩ := vals1 r2
  obtain ⟨its, rv, tp, _⟩ := I2.tuple hsq
  exact SeqAt.tuple_index_ints tp (intsAre_of rv) hk ⟨.int _, H2, I2.tok _, ⟨_, rfl⟩, q2⟩
end
end KX

namespace DX
open PySem PySem.Spec L2 KX
open PyProof.Rows hiding St
/-! a dict whose keys are pairs of ints, as an own object: its keys' addresses and values are known (xs) -/
def prK (q : Int × Int) : List Key := [Sum.inl q.1, Sum.inl q.2]
abbrev PXs := List (List Key × Addr × Value)
def PDp (a : Addr) (xs : PXs) (h : Heap) : Prop := (a == sysModules) = false ∧ (∀ x ∈ xs, ∃ q, x.1 = prK q) ∧ ∃ (P : Program) (w : World) (o : Obj) (es : Array DictEntry) (ep : Nat), h.get? a = some o ∧ o.ExactDict ∧ o.data = .dict es ep ∧ es.toList = xs.map (entryOfKey (tupleKind (mixKind P w))) ∧ (xs.map (·.1)).Nodup
def PDO (a : Addr) (xs : PXs) : HO := .ext (PDp a xs)
theorem entry_pq (P P' : Program) (w w' : World) (q : Int × Int) (b : Addr) (r : Value) : entryOfKey (tupleKind (mixKind P w)) (prK q, b, r) = entryOfKey (tupleKind (mixKind P' w')) (prK q, b, r) := rfl
theorem entries_pq (P P' : Program) (w w' : World) {xs : PXs} (h : ∀ x ∈ xs, ∃ q, x.1 = prK q) : xs.map (entryOfKey (tupleKind (mixKind P w))) = xs.map (entryOfKey (tupleKind (mixKind P' w'))) := by
  refine List.map_congr_left fun x hx => ?_
  obtain ⟨q, e⟩ := h x hx
  obtain ⟨k, b, r⟩ := x
  obtain rfl : k = prK q := e
  exact entry_pq P P' w w' q b r
end DX

namespace DX
open PySem PySem.Spec L2 KX
open PyProof.Rows hiding St
/-! data in a view of the heap -/
mutual
inductive Dd (K : PySem.W.Frag) (H : Hp) : V → PyData → Prop
  | non : Dd K H .non .none
  | bl (b : Bool) : Dd K H (.bl b) (.bool b)
  | int (i : Int) : Dd K H (.int i) (.int i)
  | str (x : Str) : Dd K H (.str x) (.str x)
  | lst {a : Addr} {xs : List V} {ds : List PyData} : H a = some (.lst xs) → DdAll K H xs ds → Dd K H (.ref a) (.list ds)
  | tup {a : Addr} {xs : List V} {ds : List PyData} : BqT H a xs → DdAll K H xs ds → Dd K H (.ref a) (.tuple ds)
  | dct {a : Addr} {kvs : List (Key × Int)} : H a = some (.dK (kvA kvs)) → Dd K H (.ref a) (.dict (kvD kvs))
inductive DdAll (K : PySem.W.Frag) (H : Hp) : List V → List PyData → Prop
  | nil : DdAll K H [] []
  | cons {v : V} {vs : List V} {d : PyData} {ds : List PyData} : Dd K H v d → DdAll K H vs ds → DdAll K H (v :: vs) (d :: ds)
end
mutual
theorem Dd.same {K : PySem.W.Frag} {H H' : Hp} (s : Same H H') : ∀ {v : V} {d : PyData}, Dd K H v d → Dd K H' v d
  | _, _, .non => .non
  | _, _, .bl b => .bl b
  | _, _, .int i => .int i
  | _, _, .str x => .str x
  | _, _, .lst h a => .lst (s _ _ h) (DdAll.same s a)
  | _, _, .tup h a => .tup (h.same s) (DdAll.same s a)
  | _, _, .dct h => .dct (s _ _ h)
theorem DdAll.same {K : PySem.W.Frag} {H H' : Hp} (s : Same H H') : ∀ {vs : List V} {ds : List PyData}, DdAll K H vs ds → DdAll K H' vs ds
  | _, _, .nil => .nil
  | _, _, .cons h t => .cons (Dd.same s h) (DdAll.same s t)
end
mutual
theorem Dd.dq {K : PySem.W.Frag} {H : Hp} : ∀ {v : V} {d : PyData}, Dd K H v d → Dq K H v d
  | _, _, .non => .non
  | _, _, .bl b => .bl b
  | _, _, .int i => .int i
  | _, _, .str x => .str x
  | _, _, .lst h a => .lst (SqL.of h) (DdAll.dq a)
  | _, _, .tup h a => .tup h.sq (DdAll.dq a)
  | _, _, .dct h => .dct h
theorem DdAll.dq {K : PySem.W.Frag} {H : Hp} : ∀ {vs : List V} {ds : List PyData}, DdAll K H vs ds → DqAll K H vs ds
  | _, _, .nil => .nil
  | _, _, .cons h t => .cons (Dd.dq h) (DdAll.dq t)
end
section
variable {K : PySem.W.Frag} {H : Hp}
theorem DdAll.len : ∀ {vs : List V} {ds : List PyData}, DdAll K H vs ds → vs.length = ds.length
  | _, _, .nil => rfl
  | _, _, .cons _ t => congrArg (· + 1) (DdAll.len t)
theorem DdAll.app : ∀ {vs us : List V} {ds es : List PyData}, DdAll K H vs ds → DdAll K H us es → DdAll K H (vs ++ us) (ds ++ es)
  | _, _, _, _, .nil, h => h
  | _, _, _, _, .cons h t, q => .cons h (DdAll.app t q)
theorem DdAll.get : ∀ {vs : List V} {ds : List PyData} {i : Nat} {d : PyData}, DdAll K H vs ds → ds[i]? = some d → ∃ v, vs[i]? = some v ∧ Dd K H v d
  | _, _, _, _, .nil, e => by simp at e
  | _, _, 0, _, .cons h _, e => by simp at e; subst e; exact ⟨_, rfl, h⟩
  | _, _, i + 1, d, .cons _ t, e => by
    obtain ⟨v, h1, h2⟩ := DdAll.get (i := i) (d := d) t (by simpa using e)
    exact ⟨v, by simpa using h1, h2⟩
theorem DdAll.getV : ∀ {vs : List V} {ds : List PyData} {i : Nat} {v : V}, DdAll K H vs ds → vs[i]? = some v → ∃ d, ds[i]? = some d ∧ Dd K H v d
  | _, _, _, _, .nil, e => by simp at e
  | _, _, 0, _, .cons h _, e => by simp at e; subst e; exact ⟨_, rfl, h⟩
  | _, _, i + 1, d, .cons _ t, e => by
    obtain ⟨v, h1, h2⟩ := DdAll.getV (i := i) (v := d) t (by simpa using e)
    exact ⟨v, by simpa using h1, h2⟩
theorem DdAll.take : ∀ {vs : List V} {ds : List PyData} (n : Nat), DdAll K H vs ds → DdAll K H (vs.take n) (ds.take n)
  | _, _, 0, _ => .nil
  | _, _, _ + 1, .nil => .nil
  | _, _, n + 1, .cons h t => .cons h (DdAll.take n t)
theorem DdAll.drop : ∀ {vs : List V} {ds : List PyData} (n : Nat), DdAll K H vs ds → DdAll K H (vs.drop n) (ds.drop n)
  | _, _, 0, h => h
  | _, _, _ + 1, .nil => .nil
  | _, _, n + 1, .cons _ t => DdAll.drop n t
theorem DdAll.rev : ∀ {vs : List V} {ds : List PyData}, DdAll K H vs ds → DdAll K H vs.reverse ds.reverse
  | _, _, .nil => .nil
  | _, _, .cons h t => by simp only [List.reverse_cons]; exact (DdAll.rev t).app (.cons h .nil)
theorem DdAll.set {v : V} {d : PyData} (h : Dd K H v d) : ∀ {vs : List V} {ds : List PyData} (n : Nat), DdAll K H vs ds → DdAll K H (vs.set n v) (ds.set n d)
  | _, _, _, .nil => .nil
  | _, _, 0, .cons _ t => .cons h t
  | _, _, n + 1, .cons q t => .cons q (DdAll.set h n t)
theorem DdAll.erase : ∀ {vs : List V} {ds : List PyData} (n : Nat), DdAll K H vs ds → DdAll K H (vs.eraseIdx n) (ds.eraseIdx n)
  | _, _, _, .nil => .nil
  | _, _, 0, .cons _ t => t
  | _, _, n + 1, .cons q t => .cons q (DdAll.erase n t)
theorem DdAll.dropLast : ∀ {vs : List V} {ds : List PyData}, DdAll K H vs ds → DdAll K H vs.dropLast ds.dropLast := by
  intro vs ds h
  rw [List.dropLast_eq_take, List.dropLast_eq_take, h.len]
  exact h.take _
theorem DdAll.pick : ∀ {vs : List V} {ds : List PyData} (js : List Nat), DdAll K H vs ds → DdAll K H (js.filterMap (vs[·]?)) (js.filterMap (ds[·]?))
  | _, _, [], _ => .nil
  | vs, ds, j :: js, h => by
    rw [List.filterMap_cons, List.filterMap_cons]
    cases e : ds[j]? with
    | none =>
      have e2 : vs[j]? = none := by
        rw [List.getElem?_eq_none_iff] at e ⊢
        rw [h.len]; exact e
      rw [e2]; exact DdAll.pick js h
    | some d =>
      obtain ⟨v, e2, hv⟩ := h.get e
      rw [e2]; exact .cons hv (DdAll.pick js h)
theorem ddAll_ints : ∀ ns : List Int, DdAll K H (ns.map V.int) (ns.map PyData.int)
  | [] => .nil
  | n :: ns => .cons (.int n) (ddAll_ints ns)
theorem DdAll.ints : ∀ {vs : List V} {ns : List Int}, DdAll K H vs (ns.map PyData.int) → vs = ns.map V.int
  | _, [], h => by cases h; rfl
  | _, n :: ns, h => by
    cases h with
    | cons h t => cases h; rw [DdAll.ints t]; rfl
theorem DdAll.bools : ∀ {vs : List V} {bs : List Bool}, DdAll K H vs (bs.map PyData.bool) → vs = bs.map V.bl
  | _, [], h => by cases h; rfl
  | _, n :: ns, h => by
    cases h with
    | cons h t => cases h; rw [DdAll.bools t]; rfl
end
mutual
theorem Dd.dp {K : PySem.W.Frag} {H : Hp} : ∀ {v : V} {d : PyData}, Dd K H v d → d.hasDict = false → Dp K H v d
  | _, _, .non, _ => .non
  | _, _, .bl b, _ => .bl b
  | _, _, .int i, _ => .int i
  | _, _, .str x, _ => .str x
  | _, _, .lst h a, e => .lst (SqL.of h) (DdAll.dp a (by simpa only [PyData.hasDict] using e))
  | _, _, .tup h a, e => .tup h.sq (DdAll.dp a (by simpa only [PyData.hasDict] using e))
  | _, _, .dct _, e => by simp [PyData.hasDict] at e
theorem DdAll.dp {K : PySem.W.Frag} {H : Hp} : ∀ {vs : List V} {ds : List PyData}, DdAll K H vs ds → PyData.hasDictAll ds = false → DpAll K H vs ds
  | _, _, .nil, _ => .nil
  | _, _, .cons h t, e => by
    simp only [PyData.hasDictAll, Bool.or_eq_false_iff] at e
    exact .cons (Dd.dp h e.1) (DdAll.dp t e.2)
end
/-! the store of draws: its invariant, whatever it is -/
structure Fam where
  ok : Hp → Addr → List Addr → Prop
  frame : ∀ {H H' : Hp} {d : Addr} {c : List Addr}, ok H d c → H' d = H d → (∀ a ∈ c, H' a = H a) → ok H' d c
  liveD : ∀ {H : Hp} {d : Addr} {c : List Addr}, ok H d c → H d ≠ none
  liveC : ∀ {H : Hp} {d : Addr} {c : List Addr}, ok H d c → ∀ a ∈ c, H a ≠ none
  /-- no bound is kept -/
  triv : Prop
  /-- so many draws at most -/
  le : Nat → Hp → Addr → List Addr → Prop
  leT : triv → ∀ n H d c, le n H d c
  leF : ∀ {n : Nat} {H H' : Hp} {d : Addr} {c : List Addr}, le n H d c → H' d = H d → (∀ a ∈ c, H' a = H a) → le n H' d c
  leM : ∀ {n m : Nat} {H : Hp} {d : Addr} {c : List Addr}, n ≤ m → le n H d c → le m H d c
structure Ct where
  K : PySem.W.Frag
  F : Fam
  R : Option (Addr × List Addr)
  H0 : Hp
  U0 : Hp
def Rm (R : Option (Addr × List Addr)) (a : Addr) : Prop := ∃ d c, R = some (d, c) ∧ (a = d ∨ a ∈ c)
/-- U: what all may see; H: all there is -/
structure Wd (C : Ct) (H U : Hp) : Prop where
  sub : Same U H
  old : ∀ a o, ¬ Rm C.R a → C.H0 a = some o → H a = some o
  vold : Same C.U0 U
  new : ∀ a o, U a = some o → C.U0 a = some o ∨ C.H0 a = none
  rok : ∀ d c, C.R = some (d, c) → C.F.ok H d c
  rv : ∀ a, Rm C.R a → U a = none
  r0 : ∀ a, Rm C.R a → C.H0 a ≠ none
/-- a step that makes things -/
structure Ext (C : Ct) (H U H' U' : Hp) : Prop where
  same : ∀ a o, ¬ Rm C.R a → H a = some o → H' a = some o
  us : Same U U'
  sub : Same U' H'
  new : ∀ a o, U' a = some o → U a = some o ∨ H a = none
  rok : ∀ d c, C.R = some (d, c) → C.F.ok H' d c
/-- a step that makes things and draws nothing -/
structure ExtK (C : Ct) (H U H' U' : Hp) : Prop extends Ext C H U H' U' where
  keep : ∀ d c n, C.R = some (d, c) → C.F.le n H d c → C.F.le n H' d c
section
variable {C : Ct} {H U H' U' H2 U2 : Hp}
theorem Wd.live (w : Wd C H U) {a : Addr} (h : Rm C.R a) : H a ≠ none := by
  obtain ⟨d, c, e, rfl | h⟩ := h
  · exact C.F.liveD (w.rok _ _ e)
  · exact C.F.liveC (w.rok _ _ e) _ h
theorem Ext.refl (w : Wd C H U) : ExtK C H U H U := ⟨⟨fun _ _ _ e => e, Same.refl _, w.sub, fun _ _ e => .inl e, w.rok⟩, fun _ _ _ _ e => e⟩
theorem Wd.ext (w : Wd C H U) (x : Ext C H U H' U') : Wd C H' U' where
  sub := x.sub
  old a o hr e := x.same a o hr (w.old a o hr e)
  vold := w.vold.trans x.us
  new a o e := by
    rcases x.new a o e with h | h
    · exact w.new a o h
    · refine .inr ?_
      cases q : C.H0 a with
      | none => rfl
      | some u =>
        rcases Classical.em (Rm C.R a) with hr | hr
        · exact absurd h (w.live hr)
        · rw [w.old a u hr q] at h; cases h
  rok := x.rok
  rv a hr := by
    cases q : U' a with
    | none => rfl
    | some o =>
      rcases x.new a o q with h | h
      · rw [w.rv a hr] at h; cases h
      · exact absurd h (w.live hr)
  r0 := w.r0
theorem Ext.trans (w : Wd C H U) (x : Ext C H U H' U') (y : Ext C H' U' H2 U2) : Ext C H U H2 U2 where
  same a o hr e := y.same a o hr (x.same a o hr e)
  us := x.us.trans y.us
  sub := y.sub
  new a o e := by
    rcases y.new a o e with h | h
    · exact x.new a o h
    · refine .inr ?_
      cases q : H a with
      | none => rfl
      | some u =>
        rcases Classical.em (Rm C.R a) with hr | hr
        · exact absurd h ((w.ext x).live hr)
        · rw [x.same a u hr q] at h; cases h
  rok := y.rok
instance {C : Ct} {H U H' U' : Hp} : Coe (ExtK C H U H' U') (Ext C H U H' U') := ⟨ExtK.toExt⟩
theorem ExtK.trans (w : Wd C H U) (x : ExtK C H U H' U') (y : ExtK C H' U' H2 U2) : ExtK C H U H2 U2 := ⟨Ext.trans w x.toExt y.toExt, fun d c n e h => y.keep d c n e (x.keep d c n e h)⟩
theorem le_new {a : Addr} {o : HO} (w : Wd C H U) (h : H a = none) : ∀ d c n, C.R = some (d, c) → C.F.le n H d c → C.F.le n (upd H a o) d c := fun d c n e k =>
  C.F.leF k (upd_ne fun z => C.F.liveD (w.rok d c e) (z ▸ h)) (fun b hb => upd_ne fun z => C.F.liveC (w.rok d c e) b hb (z ▸ h))
theorem rok_new {a : Addr} {o : HO} (w : Wd C H U) (h : H a = none) : ∀ d c, C.R = some (d, c) → C.F.ok (upd H a o) d c := fun d c e => by
  have k := w.rok d c e
  refine C.F.frame k (upd_ne fun z => C.F.liveD k (z ▸ h)) (fun b hb => upd_ne fun z => C.F.liveC k b hb (z ▸ h))
/-- a new thing that all may see -/
theorem Ext.pub {a : Addr} {o : HO} (w : Wd C H U) (h : H a = none) : ExtK C H U (upd H a o) (upd U a o) where
  same b u _ e := by rw [upd_ne (ne_of_none e h)]; exact e
  us b u e := by rw [upd_ne (ne_of_none (w.sub _ _ e) h)]; exact e
  sub b u e := by
    by_cases q : b = a
    · subst q; rw [upd_same] at e ⊢; exact e
    · rw [upd_ne q] at e ⊢; exact w.sub _ _ e
  new b u e := by
    by_cases q : b = a
    · subst q; exact .inr h
    · rw [upd_ne q] at e; exact .inl e
  rok := rok_new w h
  keep := le_new w h
/-- a new thing of one's own -/
theorem Ext.priv {a : Addr} {o : HO} (w : Wd C H U) (h : H a = none) : ExtK C H U (upd H a o) U where
  same b u _ e := by rw [upd_ne (ne_of_none e h)]; exact e
  us := Same.refl _
  sub b u e := by rw [upd_ne (ne_of_none (w.sub _ _ e) h)]; exact w.sub _ _ e
  new b u e := .inl e
  rok := rok_new w h
  keep := le_new w h
end
/-! slots and results -/
/-- a list of one's own at a -/
def OwnAt (C : Ct) (H U : Hp) (a : Addr) (ds : List PyData) : Prop := C.H0 a = none ∧ U a = none ∧ ∃ vs, H a = some (.lst vs) ∧ DdAll C.K U vs ds
/-- a dict of one's own at a, its keys pairs of ints -/
def DtAt (C : Ct) (H U : Hp) (a : Addr) (ns : List (Int × Int)) : Prop := C.H0 a = none ∧ U a = none ∧ ∃ xs, H a = some (PDO a xs) ∧ xs.map (·.1) = ns.map prK ∧ ∀ x ∈ xs, BqT U x.2.1 (x.1.map kV)
def SlOk (C : Ct) (H U : Hp) : Option V → Sl → Prop
  | _, .emp => True
  | some v, .pub d => Dd C.K U v d
  | some v, .own ds => ∃ a, v = .ref a ∧ OwnAt C H U a ds
  | some v, .sup => ∃ d c, C.R = some (d, c) ∧ v = .ref d
  | some v, .supn n => ∃ d c, C.R = some (d, c) ∧ v = .ref d ∧ C.F.le n H d c
  | some v, .dto ns => ∃ a, v = .ref a ∧ DtAt C H U a ns
  | _, _ => False
structure En (C : Ct) (σ : L2.St) (δ : DEnv) (H U : Hp) : Prop where
  wd : Wd C H U
  len : σ.length = δ.length
  sl : ∀ (i : Nat) s, δ[i]? = some s → ∃ o, σ[i]? = some o ∧ SlOk C H U o s
  sep : ∀ (i j : Nat) ds es a, δ[i]? = some (.own ds) → δ[j]? = some (.own es) → σ[i]? = some (some (V.ref a)) → σ[j]? = some (some (V.ref a)) → i = j
/-- a result -/
def RsOk (C : Ct) (σ : L2.St) (δ : DEnv) (H U : Hp) (v : V) : Sl → Prop
  | .pub d => Dd C.K U v d
  | .own ds => ∃ a, v = .ref a ∧ OwnAt C H U a ds ∧ ∀ (i : Nat) es, δ[i]? = some (.own es) → σ[i]? ≠ some (some (V.ref a))
  | .var i => σ[i]? = some (some v)
  | .sup => ∃ d c, C.R = some (d, c) ∧ v = .ref d
  | .supn _ => ∃ d c, C.R = some (d, c) ∧ v = .ref d
  | .dto _ => False
  | .emp => False
/-- the same, as long as one looks -/
def Hold (C : Ct) (σ : L2.St) (U : Hp) (v : V) : Sl → Prop
  | .pub d => Dd C.K U v d
  | .own ds => Dd C.K U v (.list ds)
  | .var i => σ[i]? = some (some v)
  | .sup => ∃ d c, C.R = some (d, c) ∧ v = .ref d
  | .supn _ => ∃ d c, C.R = some (d, c) ∧ v = .ref d
  | .dto _ => False
  | .emp => False
/-- what can be read now -/
def Rdb (C : Ct) (H U : Hp) (v : V) (d : PyData) : Prop := Dd C.K U v d ∨ ∃ a vs ds, v = .ref a ∧ d = .list ds ∧ H a = some (.lst vs) ∧ DdAll C.K U vs ds
section
variable {C : Ct} {σ : L2.St} {δ δ' : DEnv} {H U H' U' : Hp} {v : V} {r : Sl} {d : PyData}
theorem Rm.not0 (w : Wd C H U) {a : Addr} (h : C.H0 a = none) : ¬ Rm C.R a := fun q => w.r0 a q h
theorem OwnAt.ext {a : Addr} {ds : List PyData} (w : Wd C H U) (o : OwnAt C H U a ds) (x : Ext C H U H' U') : OwnAt C H' U' a ds := by
  obtain ⟨h0, hu, vs, hh, ha⟩ := o
  refine ⟨h0, ?_, vs, x.same _ _ (Rm.not0 w h0) hh, ha.same x.us⟩
  cases q : U' a with
  | none => rfl
  | some u =>
    rcases x.new a u q with z | z
    · rw [hu] at z; cases z
    · rw [hh] at z; cases z
theorem DtAt.ext {a : Addr} {ns : List (Int × Int)} (w : Wd C H U) (o : DtAt C H U a ns) (x : Ext C H U H' U') : DtAt C H' U' a ns := by
  obtain ⟨h0, hu, xs, hh, hn, hk⟩ := o
  refine ⟨h0, ?_, xs, x.same _ _ (Rm.not0 w h0) hh, hn, fun y hy => (hk y hy).same x.us⟩
  cases q : U' a with
  | none => rfl
  | some u =>
    rcases x.new a u q with z | z
    · rw [hu] at z; cases z
    · rw [hh] at z; cases z
theorem SlOk.ext {o : Option V} {s : Sl} (w : Wd C H U) (h : SlOk C H U o s) (x : ExtK C H U H' U') : SlOk C H' U' o s := by
  cases s with
  | emp => cases o <;> trivial
  | pub d => cases o with
    | none => exact h
    | some v => exact Dd.same x.us h
  | own ds => cases o with
    | none => exact h
    | some v =>
      obtain ⟨a, e, o⟩ := h
      exact ⟨a, e, o.ext w x⟩
  | var i => cases o <;> exact h
  | sup => cases o <;> exact h
  | supn n => cases o with
    | none => exact h
    | some v =>
      obtain ⟨d, c, h1, h2, h3⟩ := h
      exact ⟨d, c, h1, h2, x.keep d c n h1 h3⟩
  | dto ns => cases o with
    | none => exact h
    | some v =>
      obtain ⟨a, e, o⟩ := h
      exact ⟨a, e, o.ext w x⟩
theorem En.ext (e : En C σ δ H U) (x : ExtK C H U H' U') : En C σ δ H' U' :=
  ⟨e.wd.ext x, e.len, fun i s h => let ⟨o, h1, h2⟩ := e.sl i s h; ⟨o, h1, h2.ext e.wd x⟩, e.sep⟩
theorem Hold.mono (s : Same U U') : ∀ {r : Sl}, Hold C σ U v r → Hold C σ U' v r
  | .pub _, h => Dd.same s h
  | .own _, h => Dd.same s h
  | .var _, h => h
  | .sup, h => h
  | .supn _, h => h
  | .dto _, h => h
/-- a list of one's own is let go -/
theorem Wd.publish {a : Addr} {vs : List V} (w : Wd C H U) (h0 : C.H0 a = none) (hu : U a = none) (hh : H a = some (.lst vs)) : Wd C H (upd U a (.lst vs)) ∧ Same U (upd U a (.lst vs)) := by
  have sm : Same U (upd U a (.lst vs)) := fun b o e => by rw [upd_ne (ne_of_none e hu)]; exact e
  refine ⟨⟨fun b o e => ?_, w.old, w.vold.trans sm, fun b o e => ?_, w.rok, fun b hr => ?_, w.r0⟩, sm⟩
  · by_cases q : b = a
    · subst q; rw [upd_same] at e; rw [hh]; exact e
    · rw [upd_ne q] at e; exact w.sub _ _ e
  · by_cases q : b = a
    · subst q; exact .inr h0
    · rw [upd_ne q] at e; exact w.new _ _ e
  · have : b ≠ a := fun z => w.r0 b hr (z ▸ h0)
    rw [upd_ne this]; exact w.rv b hr
theorem SlOk.publish {a : Addr} {vs : List V} {o : Option V} {s : Sl} (hu : U a = none) (hh : H a = some (.lst vs)) (hne : ∀ es, s = .own es → o ≠ some (V.ref a)) (h : SlOk C H U o s) : SlOk C H (upd U a (.lst vs)) o s := by
  have sm : Same U (upd U a (.lst vs)) := fun b o e => by rw [upd_ne (ne_of_none e hu)]; exact e
  cases s with
  | emp => cases o <;> trivial
  | pub d => cases o with
    | none => exact h
    | some v => exact Dd.same sm h
  | own ds => cases o with
    | none => exact h
    | some v =>
      obtain ⟨b, rfl, h0, hb, us, hh, ha⟩ := h
      have : b ≠ a := fun z => hne ds rfl (by rw [z])
      exact ⟨b, rfl, h0, by rw [upd_ne this]; exact hb, us, hh, ha.same sm⟩
  | var i => cases o <;> exact h
  | sup => cases o <;> exact h
  | supn n => cases o <;> exact h
  | dto ns => cases o with
    | none => exact h
    | some v =>
      obtain ⟨b, rfl, h0, hb, xs, hx, hn, hk⟩ := h
      have : b ≠ a := fun z => by subst z; rw [hh] at hx; cases hx
      exact ⟨b, rfl, h0, by rw [upd_ne this]; exact hb, xs, hx, hn, fun y hy => (hk y hy).same sm⟩
theorem hold_of (e : En C σ δ H U) (h : RsOk C σ δ H U v r) : ∃ U', Same U U' ∧ En C σ δ H U' ∧ Hold C σ U' v r := by
  cases r with
  | emp => exact h.elim
  | pub d => exact ⟨U, Same.refl _, e, h⟩
  | var i => exact ⟨U, Same.refl _, e, h⟩
  | sup => exact ⟨U, Same.refl _, e, h⟩
  | supn n => exact ⟨U, Same.refl _, e, h⟩
  | dto n => exact h.elim
  | own ds =>
    obtain ⟨a, rfl, ⟨h0, hu, vs, hh, ha⟩, hn⟩ := h
    obtain ⟨w1, sm⟩ := e.wd.publish h0 hu hh
    refine ⟨_, sm, ⟨w1, e.len, fun i s hs => ?_, e.sep⟩, .lst upd_same (ha.same sm)⟩
    obtain ⟨o, h1, h2⟩ := e.sl i s hs
    exact ⟨o, h1, h2.publish hu hh fun es z => by rw [z] at hs; exact fun q => hn i es hs (by rw [h1, q])⟩
theorem rdb_of (e : En C σ δ H U) (h : Hold C σ U v r) (hr : rd δ r = some d) : Rdb C H U v d := by
  cases r with
  | emp => exact h.elim
  | pub d' => cases hr; exact .inl h
  | own ds => cases hr; exact .inl h
  | sup => cases hr
  | supn n => cases hr
  | dto n => exact h.elim
  | var i =>
    have h : σ[i]? = some (some v) := h
    simp only [rd] at hr
    split at hr
    · rename_i ds hs
      cases hr
      obtain ⟨o, h1, h2⟩ := e.sl i _ hs
      rw [h] at h1
      cases h1
      obtain ⟨a, rfl, _, _, vs, hh, ha⟩ := h2
      exact .inr ⟨a, vs, ds, rfl, rfl, hh, ha⟩
    · rename_i d' hs
      cases hr
      obtain ⟨o, h1, h2⟩ := e.sl i _ hs
      rw [h] at h1
      cases h1
      exact .inl h2
    · cases hr
theorem pb_len (i : Nat) : (pb δ i).length = δ.length := by
  unfold pb; split <;> simp
/-- a slot's list is let go -/
theorem En.pb (e : En C σ δ H U) (i : Nat) : ∃ U', Same U U' ∧ En C σ (pb δ i) H U' := by
  unfold DX.pb
  split
  · rename_i ds hs
    obtain ⟨o, h1, h2⟩ := e.sl i _ hs
    cases o with
    | none => exact h2.elim
    | some v =>
      obtain ⟨a, rfl, h0, hu, vs, hh, ha⟩ := h2
      obtain ⟨w1, sm⟩ := e.wd.publish h0 hu hh
      have hi : i < δ.length := by
        rcases Nat.lt_or_ge i δ.length with q | q
        · exact q
        · rw [List.getElem?_eq_none q] at hs; cases hs
      refine ⟨_, sm, w1, by rw [List.length_set]; exact e.len, fun j s hj => ?_, fun j k es fs b hj hk sj sk => ?_⟩
      · by_cases q : i = j
        · subst q
          rw [List.getElem?_set_self hi] at hj
          cases hj
          exact ⟨_, h1, .lst upd_same (ha.same sm)⟩
        · rw [List.getElem?_set_ne q] at hj
          obtain ⟨o, g1, g2⟩ := e.sl j s hj
          refine ⟨o, g1, g2.publish hu hh fun es z => ?_⟩
          rw [z] at hj
          intro w
          rw [w] at g1
          exact q (e.sep i j ds es a hs hj h1 g1)
      · have qj : i ≠ j := fun z => by subst z; rw [List.getElem?_set_self hi] at hj; cases hj
        have qk : i ≠ k := fun z => by subst z; rw [List.getElem?_set_self hi] at hk; cases hk
        rw [List.getElem?_set_ne qj] at hj
        rw [List.getElem?_set_ne qk] at hk
        exact e.sep j k es fs b hj hk sj sk
  · exact ⟨U, Same.refl _, e⟩
theorem rd_pb (h : rd δ (.var v') = some d) : rd (pb δ v') (.var v') = some d := by
  unfold DX.pb
  simp only [rd] at h ⊢
  split at h
  · rename_i ds hs
    cases h
    have hi : v' < δ.length := by
      rcases Nat.lt_or_ge v' δ.length with q | q
      · exact q
      · rw [List.getElem?_eq_none q] at hs; cases hs
    simp only [hs, List.getElem?_set_self hi]
  · rename_i d' hs
    simp only [hs]; exact h
  · cases h
theorem pb_pub (h : rd δ (.var v') = some d) : (pb δ v')[v']? = some (.pub d) := by
  unfold DX.pb
  simp only [rd] at h
  split at h
  · rename_i ds hs
    cases h
    have hi : v' < δ.length := by
      rcases Nat.lt_or_ge v' δ.length with q | q
      · exact q
      · rw [List.getElem?_eq_none q] at hs; cases hs
    simp only [hs, List.getElem?_set_self hi]
  · rename_i d' hs
    simp only [hs]; cases h; rfl
  · cases h
theorem En.get (e : En C σ δ H U) {i : Nat} {d : PyData} (h : δ[i]? = some (.pub d)) : ∃ v, σ[i]? = some (some v) ∧ Dd C.K U v d := by
  obtain ⟨o, h1, h2⟩ := e.sl i _ h
  cases o with
  | none => exact h2.elim
  | some v => exact ⟨v, h1, h2⟩
end
end DX

namespace DX
open PySem PySem.Spec L2 KX
open PyProof.Rows hiding St
/-- results of arguments: lists of one's own stay so, each at its own place -/
inductive HA (C : Ct) (σ : L2.St) (δ : DEnv) (H U : Hp) : List V → List Sl → Prop
  | nil : HA C σ δ H U [] []
  | cons {v : V} {r : Sl} {vs : List V} {rs : List Sl} : RsOk C σ δ H U v r → (∀ a ds, r = .own ds → v = .ref a → ∀ (j : Nat) b es, rs[j]? = some (.own es) → vs[j]? = some (V.ref b) → b ≠ a) → HA C σ δ H U vs rs → HA C σ δ H U (v :: vs) (r :: rs)
abbrev HoldAll (C : Ct) (σ : L2.St) (U : Hp) : List V → List Sl → Prop := Paired (Hold C σ U)
def RtOk (C : Ct) (H U : Hp) (v : V) : Sl → Prop
  | .pub d => Dd C.K U v d
  | .own ds => ∃ a, v = .ref a ∧ OwnAt C H U a ds
  | _ => False
structure EndsOk (C : Ct) (DD : DEnds) (D : L2.Ends) : Prop where
  nx : ∀ δ, DD.nx δ → ∀ σ H U, En C σ δ H U → D.nx σ H
  bk : ∀ δ, DD.bk δ → ∀ σ H U, En C σ δ H U → D.bk σ H
  ct : ∀ δ, DD.ct δ → ∀ σ H U, En C σ δ H U → D.ct σ H
  rt : ∀ r, DD.rt r → ∀ v H U, Wd C H U → RtOk C H U v r → D.rt v H
variable (F : Fam) (K : PySem.W.Frag)
def lE (w : DE) : TE := fun σ H Q => ∃ C δ U k, C.K = K ∧ C.F = F ∧ En C σ δ H U ∧ w δ k ∧ ∀ r δ', k r δ' → ∀ v H' U', Same U U' → En C σ δ' H' U' → RsOk C σ δ' H' U' v r → Q v H'
def lT (w : DT) : TT := fun σ H Q => ∃ C δ U k, C.K = K ∧ C.F = F ∧ En C σ δ H U ∧ w δ k ∧ ∀ b δ', k b δ' → ∀ H' U', Same U U' → En C σ δ' H' U' → Q b H'
def lA (w : DA) : TA := fun σ H Q => ∃ C δ U k, C.K = K ∧ C.F = F ∧ En C σ δ H U ∧ w δ k ∧ ∀ rs δ', k rs δ' → ∀ vs H' U', Same U U' → En C σ δ' H' U' → HA C σ δ' H' U' vs rs → Q vs H'
def lS (w : DS) : TS := fun D σ H => ∃ C δ U DD, C.K = K ∧ C.F = F ∧ En C σ δ H U ∧ w DD δ ∧ EndsOk C DD D
/-- a walked item: data, or (b = false) a pair that is unpacked at once -/
def Di (b : Bool) (K : PySem.W.Frag) (U : Hp) (v : V) (d : PyData) : Prop := Dd K U v d ∨ (b = false ∧ ∃ a xs ds, v = .ref a ∧ d = .tuple ds ∧ SqT K U a xs ∧ DdAll K U xs ds)
def RsB (b : Bool) (C : Ct) (σ : L2.St) (δ : DEnv) (H U : Hp) (v : V) : Sl → Prop
  | .pub d => Di b C.K U v d
  | r => RsOk C σ δ H U v r
def lG (b : Bool) (g : DG) : TG := fun v σ H Q => ∃ C δ U k r, C.K = K ∧ C.F = F ∧ En C σ δ H U ∧ RsB b C σ δ H U v r ∧ g r δ k ∧ ∀ δ', k δ' → ∀ σ' H' U', Same U U' → En C σ' δ' H' U' → Q σ' H'
theorem rsB_of {b : Bool} {C : Ct} {σ : L2.St} {δ : DEnv} {H U : Hp} {v : V} {r : Sl} (h : RsOk C σ δ H U v r) : RsB b C σ δ H U v r := by
  cases r <;> first | exact .inl h | exact h
theorem rsB_ok {C : Ct} {σ : L2.St} {δ : DEnv} {H U : Hp} {v : V} {r : Sl} (h : RsB true C σ δ H U v r) : RsOk C σ δ H U v r := by
  cases r with
  | pub d =>
    rcases h with h | ⟨z, _⟩
    · exact h
    · cases z
  | _ => exact h
variable {F K}
section
variable {X : Cx} {e a b : Expr} {t t' : TE}
theorem PE.imp (h : PE X e t) (i : ∀ σ H Q, t' σ H Q → t σ H Q) : PE X e t' := ⟨fun pins s σ H Q I q => h.run pins s σ H Q I (i σ H Q q)⟩
theorem PT.imp {t t' : TT} (h : PT X e t) (i : ∀ σ H Q, t' σ H Q → t σ H Q) : PT X e t' := ⟨fun pins s σ H Q I q => h.run pins s σ H Q I (i σ H Q q)⟩
theorem PW.imp {t t' : TT} (h : PW X e t) (i : ∀ σ H Q, t' σ H Q → t σ H Q) : PW X e t' := ⟨fun wh pins s σ H Q I q => h.run wh pins s σ H Q I (i σ H Q q)⟩
theorem PA.imp {es : List Expr} {t t' : TA} (h : PA X es t) (i : ∀ σ H Q, t' σ H Q → t σ H Q) : PA X es t' := ⟨fun pos pins s σ H Q I q => h.run pos pins s σ H Q I (i σ H Q q)⟩
theorem PS.imp {st : Stmt} {t t' : TS} (h : PS X st t) (i : ∀ D σ H, t' D σ H → t D σ H) : PS X st t' := ⟨fun pins s σ H D I q => h.run pins s σ H D I (i D σ H q)⟩
theorem PSs.imp {st : List Stmt} {t t' : TS} (h : PSs X st t) (i : ∀ D σ H, t' D σ H → t D σ H) : PSs X st t' := ⟨fun pins s σ H D I q => h.run pins s σ H D I (i D σ H q)⟩
end
section
variable {C : Ct} {σ : L2.St} {δ δ' : DEnv} {H U H' U' : Hp} {v : V} {r : Sl} {d : PyData}
def NewOk (C : Ct) (H H' U' : Hp) (v : V) : Sl → Prop
  | .pub d => Dd C.K U' v d
  | .own ds => ∃ a, v = .ref a ∧ H a = none ∧ U' a = none ∧ ∃ vs, H' a = some (.lst vs) ∧ DdAll C.K U' vs ds
  | _ => False
theorem Wd.none0 (w : Wd C H U) {a : Addr} (h : H a = none) : C.H0 a = none := by
  cases q : C.H0 a with
  | none => rfl
  | some o =>
    rcases Classical.em (Rm C.R a) with hr | hr
    · exact absurd h (w.live hr)
    · rw [w.old a o hr q] at h; cases h
theorem rs_new (e : En C σ δ H U) (x : Ext C H U H' U') (h : NewOk C H H' U' v r) : RsOk C σ δ H' U' v r := by
  cases r with
  | emp => exact h.elim
  | var i => exact h.elim
  | sup => exact h.elim
  | supn n => exact h.elim
  | dto n => exact h.elim
  | pub d => exact h
  | own ds =>
    obtain ⟨a, rfl, h1, h2, vs, h3, h4⟩ := h
    refine ⟨a, rfl, ⟨e.wd.none0 h1, h2, vs, h3, h4⟩, fun i es hi q => ?_⟩
    obtain ⟨o, g1, g2⟩ := e.sl i _ hi
    rw [q] at g1
    cases g1
    obtain ⟨b, z, _, _, us, hh, _⟩ := g2
    cases z
    rw [h1] at hh
    cases hh
theorem rt_of (e : En C σ δ H U) (h : RsOk C σ δ H U v r) (hv : ∀ i, r ≠ .var i) (hs : r ≠ .sup) (hn : ∀ n, r ≠ .supn n) : RtOk C H U v r := by
  cases r with
  | emp => exact h.elim
  | var i => exact absurd rfl (hv i)
  | sup => exact absurd rfl hs
  | supn n => exact absurd rfl (hn n)
  | dto n => exact h.elim
  | pub d => exact h
  | own ds => obtain ⟨a, h1, h2, _⟩ := h; exact ⟨a, h1, h2⟩
end
/-! names, constants -/
section
variable {X : Cx} {F : Fam} {e a b : Expr}
theorem d_c {v : V} {d : PyData} (h : PE X e (tC v)) (hd : ∀ U, Dd X.K U v d) : PE X e (lE F X.K (xC d)) := PE.imp h fun σ H Q ⟨C, δ, U, k, e1, e2, en, w, q⟩ => q _ _ w _ _ _ (Same.refl _) en (by rw [← e1] at hd; exact hd U)
theorem d_int {i : Int} {j} {pos : Pos} : PE X (.Constant (.int i) j pos) (lE F X.K (xC (.int i))) := d_c pe_int fun _ => .int i
theorem d_bl {i : Bool} {j} {pos : Pos} : PE X (.Constant (.bool i) j pos) (lE F X.K (xC (.bool i))) := d_c pe_bl fun _ => .bl i
theorem d_non {j} {pos : Pos} : PE X (.Constant .none j pos) (lE F X.K (xC .none)) := d_c pe_non fun _ => .non
theorem d_str {x : Str} {j} {pos : Pos} : PE X (.Constant (.str x) j pos) (lE F X.K (xC (.str x))) := d_c pe_str fun _ => .str x
theorem d_v (i : Nat) {x : Str} {pos : Pos} (hN : X.N[i]? = some x := by rfl) (hv : Vis X.env.scope x := by first | exact Or.inl rfl | exact Or.inr (Or.inl rfl) | exact Or.inr (Or.inr rfl)) (hd : (x == ("__debug__" : Str)) = false := by decide)
    (hcd : (x == ("__classdict__" : Str)) = false := by decide) : PE X (.Name x pos) (lE F X.K (xV i)) := by
  refine PE.imp (pe_var hN hv hd hcd) fun σ H Q ⟨C, δ, U, k, e1, e2, en, w, q⟩ => ?_
  simp only [xV] at w
  split at w
  · rename_i d hs
    obtain ⟨v, h1, h2⟩ := en.get hs
    exact ⟨v, h1, q _ _ w _ _ _ (Same.refl _) en h2⟩
  · rename_i ds hs
    obtain ⟨o, h1, h2⟩ := en.sl i _ hs
    cases o with
    | none => exact h2.elim
    | some v => exact ⟨v, h1, q _ _ w _ _ _ (Same.refl _) en h1⟩
  · rename_i hs
    obtain ⟨o, h1, h2⟩ := en.sl i _ hs
    cases o with
    | none => exact h2.elim
    | some v => exact ⟨v, h1, q _ _ w _ _ _ (Same.refl _) en h2⟩
  · rename_i n hs
    obtain ⟨o, h1, h2⟩ := en.sl i _ hs
    cases o with
    | none => exact h2.elim
    | some v =>
      obtain ⟨d, c, z1, z2, _⟩ := h2
      exact ⟨v, h1, q _ _ w _ _ _ (Same.refl _) en ⟨d, c, z1, z2⟩⟩
  · exact w.elim
theorem lE_imp {w w' : DE} (i : ∀ C σ δ H U k, C.K = X.K → En C σ δ H U → w' δ k → ∃ δ1 U1 k1, Same U U1 ∧ En C σ δ1 H U1 ∧ w δ1 k1 ∧ ∀ r δ', k1 r δ' → ∀ v H' U', En C σ δ' H' U' → RsOk C σ δ' H' U' v r → ∃ δ2 U2 r2, k r2 δ2 ∧ Same U' U2 ∧ En C σ δ2 H' U2 ∧ RsOk C σ δ2 H' U2 v r2)
    (h : PE X e (lE F X.K w)) : PE X e (lE F X.K w') := PE.imp h fun σ H Q ⟨C, δ, U, k, e1, e2, en, w, q⟩ => by
  obtain ⟨δ1, U1, k1, s1, en1, w1, q1⟩ := i C σ δ H U k e1 en w
  refine ⟨C, δ1, U1, k1, e1, e2, en1, w1, fun r δ' hk v H' U' s en' ho => ?_⟩
  obtain ⟨δ2, U2, r2, hk2, s2, en2, ho2⟩ := q1 r δ' hk v H' U' en' ho
  exact q r2 δ2 hk2 v H' U2 ((s1.trans s).trans s2) en2 ho2
theorem d_p {w : DE} (h : PE X e (lE F X.K w)) : PE X e (lE F X.K (xP w)) := by
  refine lE_imp (w := w) (w' := xP w) (fun C σ δ H U k e1 en hw => ⟨δ, U, _, Same.refl _, en, hw, fun r δ' hk v H' U' en' ho => ?_⟩) h
  cases r with
  | emp => exact False.elim hk
  | pub d => exact ⟨δ', U', _, hk, Same.refl _, en', ho⟩
  | sup => exact ⟨δ', U', _, hk, Same.refl _, en', ho⟩
  | supn n => exact ⟨δ', U', _, hk, Same.refl _, en', ho⟩
  | dto n => exact False.elim hk
  | own ds =>
    obtain ⟨U2, s2, en2, h2⟩ := hold_of en' ho
    exact ⟨δ', U2, .pub (.list ds), hk, s2, en2, h2⟩
  | var i =>
    obtain ⟨d, h1, h2⟩ := hk
    obtain ⟨U2, s2, en2⟩ := en'.pb i
    refine ⟨_, U2, .pub d, h2, s2, en2, ?_⟩
    obtain ⟨u, g1, g2⟩ := en2.get (pb_pub h1)
    have ho : σ[i]? = some (some v) := ho
    rw [ho] at g1
    cases g1
    exact g2
theorem En.pbs {C : Ct} {σ : L2.St} {H : Hp} : ∀ (is : List Nat) {δ : DEnv} {U : Hp}, En C σ δ H U → ∃ U', Same U U' ∧ En C σ (pbs is δ) H U'
  | [], _, U, e => ⟨U, Same.refl _, e⟩
  | i :: is, δ, U, e => by
    obtain ⟨U1, s1, e1⟩ := e.pb i
    obtain ⟨U2, s2, e2⟩ := En.pbs is e1
    exact ⟨U2, s1.trans s2, e2⟩
theorem d_ps (is : List Nat) {w : DE} (h : PE X e (lE F X.K w)) : PE X e (lE F X.K (xPs is w)) := by
  refine lE_imp (w := w) (w' := xPs is w) (fun C σ δ H U k e1 en hw => ?_) h
  obtain ⟨U1, s1, en1⟩ := en.pbs is
  exact ⟨_, U1, _, s1, en1, hw, fun r δ' hk v H' U' en' ho => ⟨δ', U', r, hk, Same.refl _, en', ho⟩⟩
/-! operators -/
def OpS (F : Fam) (X : Cx) (fn : Value → Value → Sem Value) (f : O2) : Prop := ∃ r : R2, OpR X fn r ∧ ∀ (C : Ct) (H U : Hp) (x y : V) (d e : PyData) (k : Sl → Prop) (Q : VK), C.K = X.K → C.F = F → Wd C H U → Rdb C H U x d → Rdb C H U y e → f d e k →
  (∀ s, k s → ∀ v H' U', ExtK C H U H' U' → NewOk C H H' U' v s → Q v H') → r x y H Q
theorem two {F : Fam} {wa wb : DE} {R : R2} {Q : VK} {f : O2} (hR : ∀ (C : Ct) (H U : Hp) (x y : V) (d e : PyData) (k : Sl → Prop) (Q : VK), C.K = X.K → C.F = F → Wd C H U → Rdb C H U x d → Rdb C H U y e → f d e k →
    (∀ s, k s → ∀ v H' U', ExtK C H U H' U' → NewOk C H H' U' v s → Q v H') → R x y H Q) {σ : L2.St} {H : Hp} (h : lE F X.K (x2 f wa wb) σ H Q) : tOp R (lE F X.K wa) (lE F X.K wb) σ H Q := by
  obtain ⟨C, δ, U, k, e1, e2, en, w, q⟩ := h
  refine ⟨C, δ, U, _, e1, e2, en, w, fun r1 δ1 w1 v1 H1 U1 s1 en1 o1 => ?_⟩
  obtain ⟨U1', s1', en1', h1⟩ := hold_of en1 o1
  refine ⟨C, δ1, U1', _, e1, e2, en1', w1, fun r2 δ2 w2 v2 H2 U2 s2 en2 o2 => ?_⟩
  obtain ⟨U2', s2', en2', h2⟩ := hold_of en2 o2
  obtain ⟨x, y, rx, ry, hf⟩ := w2
  refine hR C H2 U2' v1 v2 x y _ Q e1 e2 en2'.wd (rdb_of en2' (h1.mono (s2.trans s2')) rx) (rdb_of en2' h2 ry) hf fun s hs v H' U' x ok => ?_
  exact q s δ2 hs v H' U' (s1.trans (s1'.trans (s2.trans (s2'.trans x.us)))) (en2'.ext x) (rs_new en2' x ok)
theorem d_op {op : Operator} {f : O2} {wa wb : DE} {pos : Pos} (o : OpS F X (binaryOp op) f) (ha : PE X a (lE F X.K wa)) (hb : PE X b (lE F X.K wb)) : PE X (.BinOp a op b pos) (lE F X.K (x2 f wa wb)) := by
  obtain ⟨r, h1, h2⟩ := o
  exact PE.imp (pe_op h1 ha hb) fun σ H Q h => two h2 h
theorem d_cmp {op : CmpOp} {f : O2} {wa wb : DE} {pos : Pos} (o : OpS F X (compareOp op) f) (ha : PE X a (lE F X.K wa)) (hb : PE X b (lE F X.K wb)) (hm : behindInMarks op b = false := by first | exact nomark _ | rfl) : PE X (.Compare a [op] [b] pos) (lE F X.K (x2 f wa wb)) := by
  obtain ⟨r, h1, h2⟩ := o
  exact PE.imp (pe_cmpR h1 ha hb hm) fun σ H Q h => two h2 h
theorem test_of {w : DE} {t : TE} (i : ∀ σ H Q, lE F X.K w σ H Q → t σ H Q) : ∀ σ H Q, lT F X.K (tV w) σ H Q → tTest t σ H Q := by
  intro σ H Q ⟨C, δ, U, k, e1, e2, en, w, q⟩
  refine i σ H _ ⟨C, δ, U, _, e1, e2, en, w, fun r δ' hk v H' U' s en' o => ?_⟩
  obtain ⟨c, hc, hk⟩ := hk
  obtain ⟨U2, s2, en2, h2⟩ := hold_of en' o
  have := rdb_of en2 h2 hc
  rcases this with h | ⟨_, _, _, _, h, _⟩
  · cases h
    exact ⟨c, rfl, q c δ' hk H' U2 (s.trans s2) en2⟩
  · cases h
theorem dt_cmp {op : CmpOp} {f : O2} {wa wb : DE} {pos : Pos} (o : OpS F X (compareOp op) f) (ha : PE X a (lE F X.K wa)) (hb : PE X b (lE F X.K wb)) (hm : behindInMarks op b = false := by first | exact nomark _ | rfl) : PT X (.Compare a [op] [b] pos) (lT F X.K (tV (x2 f wa wb))) := by
  obtain ⟨r, h1, h2⟩ := o
  exact PT.imp (pt_cmpR h1 ha hb hm) (test_of fun σ H Q h => two h2 h)
theorem dt_val {w : DE} (h : PE X e (lE F X.K w)) (he : ∀ whole, isTrue e X.env whole = (do let v ← whole; standAt e.pos; holding [v] (truthy v)) := by intro _; rfl) : PT X e (lT F X.K (tV w)) := by
  refine PT.imp (pt_truth h he) fun σ H Q hq => ?_
  obtain ⟨C, δ, U, k, e1, e2, en, w, q⟩ := hq
  refine ⟨C, δ, U, _, e1, e2, en, w, fun r δ' hk v H' U' s en' o => ?_⟩
  obtain ⟨c, hc, hk⟩ := hk
  obtain ⟨U2, s2, en2, h2⟩ := hold_of en' o
  have := rdb_of en2 h2 hc
  rcases this with h | ⟨_, _, _, _, h, _⟩
  · cases h
    exact ⟨c, rfl, q c δ' hk H' U2 (s.trans s2) en2⟩
  · cases h
/-! tests -/
variable {wa wb : DT} {rest : List Expr} {pos : Pos}
theorem dt_not (h : PT X a (lT F X.K wa)) : PT X (.UnaryOp .Not a pos) (lT F X.K (tNot' wa)) := PT.imp (pt_not h) fun σ H Q ⟨C, δ, U, k, e1, e2, en, w, q⟩ => ⟨C, δ, U, _, e1, e2, en, w, fun b δ' hk H' U' s en' => q _ δ' hk H' U' s en'⟩
theorem dw_and1 (ha : PT X a (lT F X.K wa)) : PW X (.BoolOp .And [a] pos) (lT F X.K wa) := pw_and1 ha
theorem dw_or1 (ha : PT X a (lT F X.K wa)) : PW X (.BoolOp .Or [a] pos) (lT F X.K wa) := pw_or1 ha
theorem dw_and (ha : PT X a (lT F X.K wa)) (hb : PW X (.BoolOp .And (b :: rest) pos) (lT F X.K wb)) : PW X (.BoolOp .And (a :: b :: rest) pos) (lT F X.K (tAnd' wa wb)) := PW.imp (pw_and ha hb) fun σ H Q ⟨C, δ, U, k, e1, e2, en, w, q⟩ => by
  refine ⟨C, δ, U, _, e1, e2, en, w, fun c δ' hk H' U' s en' => ?_⟩
  cases c with
  | true => exact iteT ⟨C, δ', U', k, e1, e2, en', (by simpa using hk), fun b δ2 hk2 H2 U2 s2 en2 => q b δ2 hk2 H2 U2 (s.trans s2) en2⟩
  | false => exact iteF (q _ δ' (by simpa using hk) H' U' s en')
theorem dw_or (ha : PT X a (lT F X.K wa)) (hb : PW X (.BoolOp .Or (b :: rest) pos) (lT F X.K wb)) : PW X (.BoolOp .Or (a :: b :: rest) pos) (lT F X.K (tOr' wa wb)) := PW.imp (pw_or ha hb) fun σ H Q ⟨C, δ, U, k, e1, e2, en, w, q⟩ => by
  refine ⟨C, δ, U, _, e1, e2, en, w, fun c δ' hk H' U' s en' => ?_⟩
  cases c with
  | true => exact iteT (q _ δ' (by simpa using hk) H' U' s en')
  | false => exact iteF ⟨C, δ', U', k, e1, e2, en', (by simpa using hk), fun b δ2 hk2 H2 U2 s2 en2 => q b δ2 hk2 H2 U2 (s.trans s2) en2⟩
end
section
variable {X : Cx} {F : Fam} {e a b c : Expr} {wa wb : DE} {wc : DT} {rest : List Expr} {pos : Pos}
theorem lE_bool {C : Ct} {σ : L2.St} {δ : DEnv} {H U : Hp} {v : V} {r : Sl} {k : Bool} (en : En C σ δ H U) (o : RsOk C σ δ H U v r) (h : rd δ r = some (.bool k)) : v = .bl k := by
  obtain ⟨U2, s2, en2, h2⟩ := hold_of en o
  rcases rdb_of en2 h2 h with h | ⟨_, _, _, _, h, _⟩
  · cases h; rfl
  · cases h
theorem d_and (ha : PE X a (lE F X.K wa)) (hb : PE X (.BoolOp .And (b :: rest) pos) (lE F X.K wb)) : PE X (.BoolOp .And (a :: b :: rest) pos) (lE F X.K (xAnd wa wb)) := PE.imp (pe_and ha hb) fun σ H Q ⟨C, δ, U, k, e1, e2, en, w, q⟩ => by
  refine ⟨C, δ, U, _, e1, e2, en, w, fun r δ' hk v H' U' s en' o => ?_⟩
  obtain ⟨c, hc, hk⟩ := hk
  refine ⟨c, lE_bool en' o hc, ?_⟩
  cases c with
  | true => exact iteT ⟨C, δ', U', k, e1, e2, en', (by simpa using hk), fun b δ2 hk2 v2 H2 U2 s2 en2 => q b δ2 hk2 v2 H2 U2 (s.trans s2) en2⟩
  | false => exact iteF (q (.pub (.bool false)) δ' (by simpa using hk) _ H' U' s en' (show Dd _ _ _ _ from .bl false))
theorem d_or (ha : PE X a (lE F X.K wa)) (hb : PE X (.BoolOp .Or (b :: rest) pos) (lE F X.K wb)) : PE X (.BoolOp .Or (a :: b :: rest) pos) (lE F X.K (xOr wa wb)) := PE.imp (pe_or ha hb) fun σ H Q ⟨C, δ, U, k, e1, e2, en, w, q⟩ => by
  refine ⟨C, δ, U, _, e1, e2, en, w, fun r δ' hk v H' U' s en' o => ?_⟩
  obtain ⟨c, hc, hk⟩ := hk
  refine ⟨c, lE_bool en' o hc, ?_⟩
  cases c with
  | true => exact iteT (q (.pub (.bool true)) δ' (by simpa using hk) _ H' U' s en' (show Dd _ _ _ _ from .bl true))
  | false => exact iteF ⟨C, δ', U', k, e1, e2, en', (by simpa using hk), fun b δ2 hk2 v2 H2 U2 s2 en2 => q b δ2 hk2 v2 H2 U2 (s.trans s2) en2⟩
theorem d_one {op} (h : PE X a (lE F X.K wa)) : PE X (.BoolOp op [a] pos) (lE F X.K wa) := pe_one h
theorem d_not (ha : PE X a (lE F X.K wa)) : PE X (.UnaryOp .Not a pos) (lE F X.K (xNot wa)) := PE.imp (pe_not ha) fun σ H Q ⟨C, δ, U, k, e1, e2, en, w, q⟩ => by
  refine ⟨C, δ, U, _, e1, e2, en, w, fun r δ' hk v H' U' s en' o => ?_⟩
  obtain ⟨c, hc, hk⟩ := hk
  exact ⟨c, lE_bool en' o hc, q _ δ' hk _ H' U' s en' (show Dd _ _ _ _ from .bl _)⟩
theorem d_ifx (hc : PT X c (lT F X.K wc)) (ha : PE X a (lE F X.K wa)) (hb : PE X b (lE F X.K wb)) : PE X (.IfExp c a b pos) (lE F X.K (xIf wc wa wb)) := PE.imp (pe_ifExp hc ha hb) fun σ H Q ⟨C, δ, U, k, e1, e2, en, w, q⟩ => by
  refine ⟨C, δ, U, _, e1, e2, en, w, fun c δ' hk H' U' s en' => ?_⟩
  cases c with
  | true => exact iteT ⟨C, δ', U', k, e1, e2, en', (by simpa using hk), fun b δ2 hk2 v2 H2 U2 s2 en2 => q b δ2 hk2 v2 H2 U2 (s.trans s2) en2⟩
  | false => exact iteF ⟨C, δ', U', k, e1, e2, en', (by simpa using hk), fun b δ2 hk2 v2 H2 U2 s2 en2 => q b δ2 hk2 v2 H2 U2 (s.trans s2) en2⟩
/-! arguments -/
theorem HA.len {C : Ct} {σ : L2.St} {δ : DEnv} {H U : Hp} : ∀ {vs : List V} {rs : List Sl}, HA C σ δ H U vs rs → vs.length = rs.length
  | _, _, .nil => rfl
  | _, _, .cons _ _ t => congrArg (· + 1) t.len
theorem HA.get {C : Ct} {σ : L2.St} {δ : DEnv} {H U : Hp} : ∀ {vs : List V} {rs : List Sl} {j : Nat} {v : V} {r : Sl}, HA C σ δ H U vs rs → rs[j]? = some r → vs[j]? = some v → RsOk C σ δ H U v r
  | _, _, 0, _, _, .cons h _ _, e1, e2 => by cases e1; cases e2; exact h
  | _, _, j + 1, _, _, .cons _ _ t, e1, e2 => t.get (j := j) (by simpa using e1) (by simpa using e2)
/-- publishing one place leaves the rest -/
theorem RsOk.publish {C : Ct} {σ : L2.St} {δ : DEnv} {H U : Hp} {v : V} {r : Sl} {a : Addr} {vs : List V} (hu : U a = none) (hne : ∀ ds, r = .own ds → v ≠ .ref a) (h : RsOk C σ δ H U v r) : RsOk C σ δ H (upd U a (.lst vs)) v r := by
  have sm : Same U (upd U a (.lst vs)) := fun b o e => by rw [upd_ne (ne_of_none e hu)]; exact e
  cases r with
  | emp => exact h
  | var i => exact h
  | sup => exact h
  | supn n => exact h
  | dto n => exact h
  | pub d => exact Dd.same sm h
  | own ds =>
    obtain ⟨b, rfl, ⟨h0, hb, us, hh, ha⟩, hn⟩ := h
    have : b ≠ a := fun z => hne ds rfl (by rw [z])
    exact ⟨b, rfl, ⟨h0, by rw [upd_ne this]; exact hb, us, hh, ha.same sm⟩, hn⟩
theorem HA.publish {C : Ct} {σ : L2.St} {δ : DEnv} {H U : Hp} {a : Addr} {us : List V} (hu : U a = none) : ∀ {vs : List V} {rs : List Sl}, (∀ (j : Nat) b es, rs[j]? = some (.own es) → vs[j]? = some (V.ref b) → b ≠ a) → HA C σ δ H U vs rs → HA C σ δ H (upd U a (.lst us)) vs rs
  | _, _, _, .nil => .nil
  | _, _, hne, .cons h1 h2 h3 => .cons (h1.publish hu fun ds e z => hne 0 a ds (by rw [e]; rfl) (by rw [z]; rfl) rfl) h2 (HA.publish hu (fun j b es e1 e2 => hne (j + 1) b es (by simpa using e1) (by simpa using e2)) h3)
theorem hold_all {C : Ct} {σ : L2.St} {δ : DEnv} {H : Hp} : ∀ {vs : List V} {rs : List Sl} {U : Hp}, En C σ δ H U → HA C σ δ H U vs rs → ∃ U', Same U U' ∧ En C σ δ H U' ∧ HoldAll C σ U' vs rs
  | [], _, U, en, .nil => ⟨U, Same.refl _, en, .nil⟩
  | v :: vs, r :: rs, U, en, .cons h1 h2 h3 => by
    cases r with
    | own ds =>
      obtain ⟨a, rfl, ⟨h0, hu, us, hh, ha⟩, hn⟩ := h1
      obtain ⟨w1, sm⟩ := en.wd.publish h0 hu hh
      have en1 : En C σ δ H (upd U a (.lst us)) := ⟨w1, en.len, fun i s hs => by
        obtain ⟨o, g1, g2⟩ := en.sl i s hs
        exact ⟨o, g1, g2.publish hu hh fun es z => by rw [z] at hs; exact fun q => hn i es hs (by rw [g1, q])⟩, en.sep⟩
      obtain ⟨U2, s2, en2, h4⟩ := hold_all en1 (h3.publish hu (h2 a ds rfl rfl))
      exact ⟨U2, sm.trans s2, en2, .cons (Dd.same s2 (.lst upd_same (ha.same sm))) h4⟩
    | pub d => obtain ⟨U2, s2, en2, h4⟩ := hold_all en h3; exact ⟨U2, s2, en2, .cons (Dd.same s2 h1) h4⟩
    | var i => obtain ⟨U2, s2, en2, h4⟩ := hold_all en h3; exact ⟨U2, s2, en2, .cons h1 h4⟩
    | sup => obtain ⟨U2, s2, en2, h4⟩ := hold_all en h3; exact ⟨U2, s2, en2, .cons h1 h4⟩
    | supn n => obtain ⟨U2, s2, en2, h4⟩ := hold_all en h3; exact ⟨U2, s2, en2, .cons h1 h4⟩
    | dto n => exact h1.elim
    | emp => exact h1.elim
/-- one's own list, kept while others run: it is counted among what was there at the start -/
def Ct.keep (C : Ct) (a : Addr) (vs : List V) : Ct := { C with H0 := upd C.H0 a (.lst vs) }
theorem En.keep {C : Ct} {σ : L2.St} {δ : DEnv} {H U : Hp} {a : Addr} {vs : List V} (en : En C σ δ H U) (h0 : C.H0 a = none) (hu : U a = none) (hh : H a = some (.lst vs)) (hn : ∀ (i : Nat) es, δ[i]? = some (.own es) → σ[i]? ≠ some (some (V.ref a))) : En (C.keep a vs) σ δ H U := by
  refine ⟨⟨en.wd.sub, fun b o hr e => ?_, en.wd.vold, fun b o e => ?_, en.wd.rok, en.wd.rv, fun b hr => ?_⟩, en.len, fun i s hs => ?_, en.sep⟩
  · by_cases q : b = a
    · subst q; rw [hh]; exact (upd_same (H := C.H0)).symm.trans e
    · exact en.wd.old b o hr ((upd_ne (H := C.H0) q).symm.trans e)
  · have q : b ≠ a := fun z => by subst z; rw [hu] at e; cases e
    exact (en.wd.new b o e).imp id fun z => (upd_ne (H := C.H0) q).trans z
  · by_cases q : b = a
    · subst q; exact fun z => by have := (upd_same (H := C.H0) (a := b) (o := .lst vs)).symm.trans z; cases this
    · exact fun z => en.wd.r0 b hr ((upd_ne (H := C.H0) q).symm.trans z)
  · obtain ⟨o, g1, g2⟩ := en.sl i s hs
    refine ⟨o, g1, ?_⟩
    cases s with
    | own ds =>
      cases o with
      | none => exact g2
      | some v =>
        obtain ⟨b, rfl, hb0, hb1, hb2⟩ := g2
        have q : b ≠ a := fun z => hn i ds hs (by rw [g1, z])
        exact ⟨b, rfl, (upd_ne (H := C.H0) q).trans hb0, hb1, hb2⟩
    | emp => cases o <;> trivial
    | pub d => cases o <;> exact g2
    | var j => cases o <;> exact g2
    | sup => cases o <;> exact g2
    | supn n => cases o <;> exact g2
    | dto ns =>
      cases o with
      | none => exact g2
      | some v =>
        obtain ⟨b, rfl, hb0, hb1, xs, hx, hb2⟩ := g2
        have q : b ≠ a := fun z => by subst z; rw [hh] at hx; cases hx
        exact ⟨b, rfl, (upd_ne (H := C.H0) q).trans hb0, hb1, xs, hx, hb2⟩
theorem En.unkeep {C : Ct} {σ : L2.St} {δ : DEnv} {H U : Hp} {a : Addr} {vs : List V} (h0 : C.H0 a = none) (hu : C.U0 a = none) (hr : ¬ Rm C.R a) (en : En (C.keep a vs) σ δ H U) : En C σ δ H U ∧ U a = none ∧ H a = some (.lst vs) ∧ ∀ (i : Nat) es, δ[i]? = some (.own es) → σ[i]? ≠ some (some (V.ref a)) := by
  have k1 : (C.keep a vs).H0 a = some (.lst vs) := upd_same
  have k2 : ∀ {b}, b ≠ a → (C.keep a vs).H0 b = C.H0 b := fun q => upd_ne q
  have ua : U a = none := by
    cases z : U a with
    | none => rfl
    | some o =>
      rcases en.wd.new a o z with y | y
      · have : C.U0 a = some o := y
        rw [hu] at this; cases this
      · rw [k1] at y; cases y
  have nb : ∀ (i : Nat) es, δ[i]? = some (.own es) → σ[i]? ≠ some (some (V.ref a)) := fun i es hi hs => by
    obtain ⟨o, g1, g2⟩ := en.sl i _ hi
    rw [hs] at g1
    cases g1
    obtain ⟨b, z, hb, _⟩ := g2
    cases z
    rw [k1] at hb; cases hb
  refine ⟨⟨⟨en.wd.sub, fun b o hb e => ?_, en.wd.vold, fun b o e => ?_, en.wd.rok, en.wd.rv, fun b hb => ?_⟩, en.len, fun i s hs => ?_, en.sep⟩, ua, en.wd.old a _ hr k1, nb⟩
  · have q : b ≠ a := fun z => by subst z; rw [h0] at e; cases e
    exact en.wd.old b o hb ((k2 q).trans e)
  · have q : b ≠ a := fun z => by subst z; rw [ua] at e; cases e
    exact (en.wd.new b o e).imp id fun z => (k2 q).symm.trans z
  · have q : b ≠ a := fun z => by subst z; exact hr hb
    exact fun z => en.wd.r0 b hb ((k2 q).trans z)
  · obtain ⟨o, g1, g2⟩ := en.sl i s hs
    refine ⟨o, g1, ?_⟩
    cases s with
    | own ds =>
      cases o with
      | none => exact g2
      | some v =>
        obtain ⟨b, rfl, hb0, hb1, hb2⟩ := g2
        have q : b ≠ a := fun z => nb i ds hs (by rw [g1, z])
        exact ⟨b, rfl, (k2 q).symm.trans hb0, hb1, hb2⟩
    | emp => cases o <;> trivial
    | pub d => cases o <;> exact g2
    | var j => cases o <;> exact g2
    | sup => cases o <;> exact g2
    | supn n => cases o <;> exact g2
    | dto ns =>
      cases o with
      | none => exact g2
      | some v =>
        obtain ⟨b, rfl, hb0, hb1, hb2⟩ := g2
        have q : b ≠ a := fun z => by subst z; rw [k1] at hb0; cases hb0
        exact ⟨b, rfl, (k2 q).symm.trans hb0, hb1, hb2⟩
theorem HA.unkeep {C : Ct} {σ : L2.St} {δ : DEnv} {H U : Hp} {a : Addr} {us : List V} (h0 : C.H0 a = none) : ∀ {vs : List V} {rs : List Sl}, HA (C.keep a us) σ δ H U vs rs → HA C σ δ H U vs rs ∧ ∀ (j : Nat) b es, rs[j]? = some (.own es) → vs[j]? = some (V.ref b) → b ≠ a
  | _, _, .nil => ⟨.nil, fun j _ _ e => by simp at e⟩
  | _, _, .cons (v := v) (r := r) h1 h2 h3 => by
    have k1 : (C.keep a us).H0 a = some (.lst us) := upd_same
    obtain ⟨g1, g2⟩ := HA.unkeep h0 h3
    have f1 : RsOk C σ δ H U v r ∧ ∀ b es, r = .own es → v = .ref b → b ≠ a := by
      cases r with
      | own ds =>
        obtain ⟨b, rfl, ⟨z0, z1⟩, hn⟩ := h1
        have q : b ≠ a := fun z => by subst z; rw [k1] at z0; cases z0
        exact ⟨⟨b, rfl, ⟨(upd_ne (H := C.H0) q).symm.trans z0, z1⟩, hn⟩, fun b' _ _ e => by cases e; exact q⟩
      | pub d => exact ⟨h1, fun _ _ e => nomatch e⟩
      | var i => exact ⟨h1, fun _ _ e => nomatch e⟩
      | sup => exact ⟨h1, fun _ _ e => nomatch e⟩
      | supn n => exact ⟨h1, fun _ _ e => nomatch e⟩
      | dto n => exact h1.elim
      | emp => exact h1.elim
    refine ⟨.cons f1.1 h2 g1, fun j b es e1 e2 => ?_⟩
    cases j with
    | zero => cases e1; cases e2; exact f1.2 b es rfl rfl
    | succ j => exact g2 j b es (by simpa using e1) (by simpa using e2)
theorem da_nil : PA X [] (lA F X.K aN) := PA.imp pa_nil fun σ H Q ⟨C, δ, U, k, e1, e2, en, w, q⟩ => q [] δ w [] H U (Same.refl _) en .nil
theorem da_cons {es : List Expr} {ws : DA} (ha : PE X e (lE F X.K wa)) (hr : PA X es (lA F X.K ws)) (hs : starEach (e :: es) X.env = (false, eval e X.env) :: starEach es X.env := by rfl) : PA X (e :: es) (lA F X.K (aC wa ws)) := PA.imp (pa_cons ha hr hs) fun σ H Q ⟨C, δ, U, k, e1, e2, en, w, q⟩ => by
  refine ⟨C, δ, U, _, e1, e2, en, w, fun r δ' hk v H' U' s en' o => ?_⟩
  cases r with
  | emp => exact o.elim
  | pub d => exact ⟨C, δ', U', _, e1, e2, en', hk, fun rs δ2 hk2 vs H2 U2 s2 en2 ho => q _ δ2 hk2 _ H2 U2 (s.trans s2) en2 (.cons (Dd.same s2 o) (fun _ _ z => nomatch z) ho)⟩
  | var i => exact ⟨C, δ', U', _, e1, e2, en', hk, fun rs δ2 hk2 vs H2 U2 s2 en2 ho => q _ δ2 hk2 _ H2 U2 (s.trans s2) en2 (.cons o (fun _ _ z => nomatch z) ho)⟩
  | sup => exact ⟨C, δ', U', _, e1, e2, en', hk, fun rs δ2 hk2 vs H2 U2 s2 en2 ho => q _ δ2 hk2 _ H2 U2 (s.trans s2) en2 (.cons o (fun _ _ z => nomatch z) ho)⟩
  | supn n => exact ⟨C, δ', U', _, e1, e2, en', hk, fun rs δ2 hk2 vs H2 U2 s2 en2 ho => q _ δ2 hk2 _ H2 U2 (s.trans s2) en2 (.cons o (fun _ _ z => nomatch z) ho)⟩
  | dto n => exact o.elim
  | own ds =>
    obtain ⟨a, rfl, ⟨h0, hu, us, hh, ha⟩, hn⟩ := o
    have hr := Rm.not0 en'.wd h0
    have u0 : C.U0 a = none := by
      cases z : C.U0 a with
      | none => rfl
      | some o => rw [en'.wd.vold _ _ z] at hu; cases hu
    refine ⟨C.keep a us, δ', U', _, e1, e2, en'.keep h0 hu hh hn, hk, fun rs δ2 hk2 vs H2 U2 s2 en2 ho => ?_⟩
    obtain ⟨en3, ua, hha, nb⟩ := en2.unkeep h0 u0 hr
    obtain ⟨g1, g2⟩ := ho.unkeep h0
    exact q _ δ2 hk2 _ H2 U2 (s.trans s2) en3 (.cons ⟨a, rfl, ⟨h0, ua, us, hha, ha.same s2⟩, nb⟩ (fun b ds' z1 z2 => by cases z2; exact g2) g1)
/-- built-ins of one thing -/
def CallS (F : Fam) (X : Cx) (fn : Value) (f : O1) : Prop := ∃ r : List V → Hp → VK → Prop, CallR X fn r ∧ ∀ (C : Ct) (H U : Hp) (x : V) (d : PyData) (k : Sl → Prop) (Q : VK), C.K = X.K → C.F = F → Wd C H U → Rdb C H U x d → f d k →
  (∀ s, k s → ∀ v H' U', ExtK C H U H' U' → NewOk C H H' U' v s → Q v H') → r [x] H Q
def CallS2 (F : Fam) (X : Cx) (fn : Value) (f : O2) : Prop := ∃ r : List V → Hp → VK → Prop, CallR X fn r ∧ ∀ (C : Ct) (H U : Hp) (x y : V) (d e : PyData) (k : Sl → Prop) (Q : VK), C.K = X.K → C.F = F → Wd C H U → Rdb C H U x d → Rdb C H U y e → f d e k →
  (∀ s, k s → ∀ v H' U', ExtK C H U H' U' → NewOk C H H' U' v s → Q v H') → r [x, y] H Q
def kk1 (f : O1) (k : Sl → DEnv → Prop) : List Sl → DEnv → Prop
  | [r], δ => ∃ x, rd δ r = some x ∧ f x fun s => k s δ
  | _, _ => False
theorem kk1_of {f : O1} {k : Sl → DEnv → Prop} {rs : List Sl} {δ : DEnv} (h : kk1 f k rs δ) : ∃ r, rs = [r] ∧ ∃ x, rd δ r = some x ∧ f x fun s => k s δ := by
  match rs, h with
  | [r], h => exact ⟨r, rfl, h⟩
def kk2 (f : O2) (k : Sl → DEnv → Prop) : List Sl → DEnv → Prop
  | [r, s], δ => ∃ x y, rd δ r = some x ∧ rd δ s = some y ∧ f x y fun s => k s δ
  | _, _ => False
theorem kk2_of {f : O2} {k : Sl → DEnv → Prop} {rs : List Sl} {δ : DEnv} (h : kk2 f k rs δ) : ∃ r s, rs = [r, s] ∧ ∃ x y, rd δ r = some x ∧ rd δ s = some y ∧ f x y fun s => k s δ := by
  match rs, h with
  | [r, s], h => exact ⟨r, s, rfl, h⟩
theorem one {f : O1} {r : List V → Hp → VK → Prop} (hR : ∀ (C : Ct) (H U : Hp) (x : V) (d : PyData) (k : Sl → Prop) (Q : VK), C.K = X.K → C.F = F → Wd C H U → Rdb C H U x d → f d k →
    (∀ s, k s → ∀ v H' U', ExtK C H U H' U' → NewOk C H H' U' v s → Q v H') → r [x] H Q) {σ : L2.St} {H : Hp} {Q : VK} (h : lE F X.K (x1 f wa) σ H Q) : tCB r (lA F X.K (aC wa aN)) σ H Q := by
  obtain ⟨C, δ, U, k, e1, e2, en, w, q⟩ := h
  refine ⟨C, δ, U, kk1 f k, e1, e2, en, w, fun rs δ' hk vs H' U0 s0 en0 ho => ?_⟩
  · obtain ⟨r, rfl, x, hx, hf⟩ := kk1_of hk
    obtain ⟨U', s1, en', ho⟩ := hold_all en0 ho
    have s := s0.trans s1
    cases ho with
    | cons h1 h2 =>
      cases h2
      exact hR C H' U' _ x _ Q e1 e2 en'.wd (rdb_of en' h1 hx) hf fun s' hs v H2 U2 x2 ok => q s' δ' hs v H2 U2 (s.trans x2.us) (en'.ext x2) (rs_new en' x2 ok)
theorem tw2 {f : O2} {r : List V → Hp → VK → Prop} (hR : ∀ (C : Ct) (H U : Hp) (x y : V) (d e : PyData) (k : Sl → Prop) (Q : VK), C.K = X.K → C.F = F → Wd C H U → Rdb C H U x d → Rdb C H U y e → f d e k →
    (∀ s, k s → ∀ v H' U', ExtK C H U H' U' → NewOk C H H' U' v s → Q v H') → r [x, y] H Q) {σ : L2.St} {H : Hp} {Q : VK} (h : lE F X.K (x2 f wa wb) σ H Q) : tCB r (lA F X.K (aC wa (aC wb aN))) σ H Q := by
  obtain ⟨C, δ, U, k, e1, e2, en, w, q⟩ := h
  refine ⟨C, δ, U, kk2 f k, e1, e2, en, w, fun rs δ' hk vs H' U0 s0 en0 ho => ?_⟩
  · obtain ⟨r, s', rfl, x, y, hx, hy, hf⟩ := kk2_of hk
    obtain ⟨U', s1, en', ho⟩ := hold_all en0 ho
    have s := s0.trans s1
    cases ho with
    | cons h1 h2 =>
      cases h2 with
      | cons h2 h3 =>
        cases h3
        exact hR C H' U' _ _ x y _ Q e1 e2 en'.wd (rdb_of en' h1 hx) (rdb_of en' h2 hy) hf fun s' hs v H2 U2 x2 ok => q s' δ' hs v H2 U2 (s.trans x2.us) (en'.ext x2) (rs_new en' x2 ok)
variable {x : Str} {p : Pos}
theorem d_b1 {id : String} {f : O1} (o : CallS F X (.builtin id) f) (hg : Gl X x) (hm : X.mg x = none) (hv : bootBuiltins x = some (.builtin id)) (ha : PA X [e] (lA F X.K (aC wa aN))) (hn : x ≠ "__name__" := by decide) (hdb : (x == ("__debug__" : Str)) = false := by decide)
    (he : starEach [e] X.env = (false, eval e X.env) :: starEach [] X.env := by rfl) (hpl : (backTo pos (starEach ([] : List Expr) X.env)).any (·.1) = false := by rfl) : PE X (.Call (.Name x p) [e] [] pos) (lE F X.K (x1 f wa)) := by
  obtain ⟨r, h1, h2⟩ := o
  exact PE.imp (pe_callB h1 hg hm hv ha hn hdb he hpl) fun σ H Q h => one h2 h
theorem d_t1 {T : String} {f : O1} (o : CallS F X (.type T) f) (hg : Gl X x) (hm : X.mg x = none) (hv : bootBuiltins x = some (.type T)) (ha : PA X [e] (lA F X.K (aC wa aN))) (hn : x ≠ "__name__" := by decide) (hdb : (x == ("__debug__" : Str)) = false := by decide)
    (he : starEach [e] X.env = (false, eval e X.env) :: starEach [] X.env := by rfl) (hpl : (backTo pos (starEach ([] : List Expr) X.env)).any (·.1) = false := by rfl) : PE X (.Call (.Name x p) [e] [] pos) (lE F X.K (x1 f wa)) := by
  obtain ⟨r, h1, h2⟩ := o
  exact PE.imp (pe_callTy h1 hg hm hv ha hn hdb he hpl) fun σ H Q h => one h2 h
theorem d_b2 {id : String} {f : O2} (o : CallS2 F X (.builtin id) f) (hg : Gl X x) (hm : X.mg x = none) (hv : bootBuiltins x = some (.builtin id)) (ha : PA X [a, b] (lA F X.K (aC wa (aC wb aN)))) (hn : x ≠ "__name__" := by decide) (hdb : (x == ("__debug__" : Str)) = false := by decide)
    (he : starEach [a, b] X.env = (false, eval a X.env) :: starEach [b] X.env := by rfl) (hpl : (backTo pos (starEach [b] X.env)).any (·.1) = false := by rfl) : PE X (.Call (.Name x p) [a, b] [] pos) (lE F X.K (x2 f wa wb)) := by
  obtain ⟨r, h1, h2⟩ := o
  exact PE.imp (pe_callB h1 hg hm hv ha hn hdb he hpl) fun σ H Q h => tw2 h2 h
end
end DX

namespace DX
open PySem PySem.Spec L2 KX
open PyProof.Rows hiding St
theorem line10 {n : Nat} (h : n ≤ 10000) : n ≤ sizeLine := Nat.le_trans h (by decide)
theorem line10' {n : Nat} (h : n < 10000) : n < sizeLine := Nat.lt_of_lt_of_le h (by decide)
theorem Wd.noneU {C : Ct} {H U : Hp} {p : Addr} (w : Wd C H U) (h : H p = none) : U p = none := by
  cases z : U p with
  | none => rfl
  | some o => rw [w.sub _ _ z] at h; cases h
section
variable {X : Cx} {F : Fam} {e a b c : Expr} {wa wb : DE} {wc : DT} {ws : DA} {rest es : List Expr} {pos : Pos}
theorem pubs_of {C : Ct} {σ : L2.St} {U : Hp} : ∀ {rs : List Sl} {vs : List V} {ds : List PyData}, pubs rs = some ds → HoldAll C σ U vs rs → DdAll C.K U vs ds
  | [], _, _, h, .nil => by cases h; exact .nil
  | .pub d :: rs, _, ds, h, .cons h1 h2 => by
    simp only [pubs, Option.map_eq_some_iff] at h
    obtain ⟨es, h3, rfl⟩ := h
    exact .cons h1 (pubs_of h3 h2)
theorem d_lst (h : PA X es (lA F X.K ws)) : PE X (.List es pos) (lE F X.K (xLst ws)) := PE.imp (pe_lst h) fun σ H Q ⟨C, δ, U, k, e1, e2, en, w, q⟩ => by
  refine ⟨C, δ, U, _, e1, e2, en, w, fun rs δ' hk vs H' U0 s0 en0 ho => ?_⟩
  obtain ⟨U', s1, en', ho⟩ := hold_all en0 ho
  have s := s0.trans s1
  obtain ⟨ds, h1, h2, h3⟩ := hk
  have dd := pubs_of h1 ho
  refine ⟨by rw [dd.len]; exact line10 h2, fun p hp => ?_⟩
  have x : ExtK C H' U' (upd H' p (.lst vs)) U' := Ext.priv en'.wd hp
  exact q _ δ' h3 _ _ U' s (en'.ext x) (rs_new en' x ⟨p, rfl, hp, en'.wd.noneU hp, vs, upd_same, dd⟩)
theorem d_tup {x1} (h : PA X es (lA F X.K ws)) : PE X (.Tuple es x1 pos) (lE F X.K (xTup ws)) := PE.imp (pe_tupB h) fun σ H Q ⟨C, δ, U, k, e1, e2, en, w, q⟩ => by
  refine ⟨C, δ, U, _, e1, e2, en, w, fun rs δ' hk vs H' U0 s0 en0 ho => ?_⟩
  obtain ⟨U', s1, en', ho⟩ := hold_all en0 ho
  have s := s0.trans s1
  obtain ⟨ds, h1, h2, h3⟩ := hk
  have dd := pubs_of h1 ho
  refine ⟨by rw [dd.len]; exact line10 h2, fun p o hp ho => ?_⟩
  have x : ExtK C H' U' (upd H' p (.frz o (.tup vs))) (upd U' p (.frz o (.tup vs))) := Ext.pub en'.wd hp
  exact q (.pub (.tuple ds)) δ' h3 _ _ _ (s.trans x.us) (en'.ext x) (show Dd _ _ _ _ from .tup (BqT.of ho) (dd.same x.us))
/-! a def's promise over data -/
def ArOk (C : Ct) (U : Hp) (v : V) : Sl → Prop
  | .pub d => Dd C.K U v d
  | .sup => ∃ d c, C.R = some (d, c) ∧ v = .ref d
  | _ => False
def spD (F : Fam) (K : PySem.W.Frag) (f : DF) : Sp := fun vs H Q _ => ∃ C U as k, C.K = K ∧ C.F = F ∧ C.H0 = H ∧ C.U0 = U ∧ Wd C H U ∧ Paired (ArOk C U) vs as ∧ f as k ∧ ∀ r, k r → ∀ v H' U', Ext C H U H' U' → NewOk C H H' U' v r → Q v H'
theorem arOk_of {C : Ct} {σ : L2.St} {U : Hp} : ∀ {rs : List Sl} {vs : List V}, rs.all okArg = true → HoldAll C σ U vs rs → Paired (ArOk C U) vs rs
  | [], _, _, .nil => .nil
  | r :: rs, _, h, .cons h1 h2 => by
    rw [List.all_cons, Bool.and_eq_true] at h
    refine .cons ?_ (arOk_of h.2 h2)
    cases r with
    | pub d => exact h1
    | sup => exact h1
    | supn n => exact absurd h.1 (by simp [okArg])
    | dto n => exact h1.elim
    | emp => exact absurd h.1 (by simp [okArg])
    | own _ => exact absurd h.1 (by simp [okArg])
    | var _ => exact absurd h.1 (by simp [okArg])
theorem Wd.self {C : Ct} {H U : Hp} (w : Wd C H U) : Wd { C with H0 := H, U0 := U } H U :=
  ⟨w.sub, fun _ _ _ e => e, Same.refl _, fun _ _ e => .inl e, w.rok, w.rv, fun a hr => w.live hr⟩
theorem call_of {f : DF} {σ : L2.St} {H : Hp} {Q : VK} {E : XK} (hT : F.triv) (h : lE F X.K (xCall f ws) σ H Q) : tCall (spD F X.K f) [] E (lA F X.K ws) σ H Q := by
  obtain ⟨C, δ, U, k, e1, e2, en, w, q⟩ := h
  refine ⟨C, δ, U, _, e1, e2, en, w, fun rs δ' hk vs H' U0 s0 en0 ho => ?_⟩
  obtain ⟨U', s1, en', ho⟩ := hold_all en0 ho
  have s := s0.trans s1
  obtain ⟨h1, h2⟩ := hk
  rw [List.append_nil]
  refine ⟨{ C with H0 := H', U0 := U' }, U', rs, _, e1, e2, rfl, rfl, en'.wd.self, arOk_of h1 ho, h2, fun r hr v H2 U2 x ok => ?_⟩
  have x' : ExtK C H' U' H2 U2 := ⟨⟨x.same, x.us, x.sub, x.new, x.rok⟩, fun d c n _ _ => C.F.leT (e2 ▸ hT) _ _ _ _⟩
  refine q r δ' hr v H2 U2 (s.trans x.us) (en'.ext x') (rs_new en' x' ?_)
  cases r <;> exact ok
section
variable {x : Str} {p : Pos} {k : Nat} {f : Addr} {fd : FuncData} {ps : List Str} {df : DF}
theorem d_call (G : FnOkG X.prog X.w X.K X.mg X.base CX0 k f fd ps (spD F X.K df)) (hgd : X.A.guards = some []) (hr : Room k X.A) (hg : Gl X x) (hm : X.mg x = some (.ref f)) (hk : PySem.W.keepIn X.K (.ref f) = true) (hb : Binds X.K fd ps [])
    (ha : PA X (e :: es) (lA F X.K ws)) (hdb : (x == ("__debug__" : Str)) = false := by decide) (he : starEach (e :: es) X.env = (false, eval e X.env) :: starEach es X.env := by rfl) (hpl : (backTo pos (starEach es X.env)).any (·.1) = false := by rfl) (hT : F.triv := by exact trivial) :
    PE X (.Call (.Name x p) (e :: es) [] pos) (lE F X.K (xCall df ws)) := PE.imp (pe_callG G hgd hr hg hm hk hb .nil pass0 ha hdb he hpl) fun σ H Q h => call_of hT h
end
/-! targets -/
theorem PG.imp {tg : Expr} {t t' : TG} (h : PG X tg t) (i : ∀ v σ H Q, t' v σ H Q → t v σ H Q) : PG X tg t' := ⟨fun pins s σ H v u Q I r q => h.run pins s σ H v u Q I r (i v σ H Q q)⟩
theorem PGs.imp {tg : List Expr} {t t' : TGs} (h : PGs X tg t) (i : ∀ v σ H Q, t' v σ H Q → t v σ H Q) : PGs X tg t' := ⟨fun pins s σ H v u Q I r q => h.run pins s σ H v u Q I r (i v σ H Q q)⟩
theorem En.set {C : Ct} {σ : L2.St} {δ : DEnv} {H U : Hp} {v : V} {r : Sl} {i : Nat} (en : En C σ δ H U) (h : SlOk C H U (some v) r) (hn : ∀ a ds, r = .own ds → v = .ref a → ∀ (j : Nat) es, j ≠ i → δ[j]? = some (.own es) → σ[j]? ≠ some (some (V.ref a))) : En C (σ.set i (some v)) (δ.set i r) H U := by
  refine ⟨en.wd, by rw [List.length_set, List.length_set]; exact en.len, fun j s hs => ?_, fun j k ds es a hj hk sj sk => ?_⟩
  · by_cases q : i = j
    · subst q
      rcases Nat.lt_or_ge i δ.length with hi | hi
      · rw [List.getElem?_set_self hi] at hs
        cases hs
        exact ⟨_, List.getElem?_set_self (by rw [en.len]; exact hi), h⟩
      · rw [List.getElem?_eq_none (by rw [List.length_set]; exact hi)] at hs; cases hs
    · rw [List.getElem?_set_ne q] at hs ⊢
      exact en.sl j s hs
  · by_cases qj : i = j
    · by_cases qk : i = k
      · exact qj.symm.trans qk
      · subst qj
        rw [List.getElem?_set_ne qk] at hk sk
        rcases Nat.lt_or_ge i δ.length with hi | hi
        · rw [List.getElem?_set_self hi] at hj
          rw [List.getElem?_set_self (by rw [en.len]; exact hi)] at sj
          cases hj
          cases sj
          exact absurd sk (hn a ds rfl rfl k es (Ne.symm qk) hk)
        · rw [List.getElem?_eq_none (by rw [List.length_set]; exact hi)] at hj; cases hj
    · rw [List.getElem?_set_ne qj] at hj sj
      by_cases qk : i = k
      · subst qk
        rcases Nat.lt_or_ge i δ.length with hi | hi
        · rw [List.getElem?_set_self hi] at hk
          rw [List.getElem?_set_self (by rw [en.len]; exact hi)] at sk
          cases hk
          cases sk
          exact absurd sj (hn a es rfl rfl j ds (Ne.symm qj) hj)
        · rw [List.getElem?_eq_none (by rw [List.length_set]; exact hi)] at hk; cases hk
      · rw [List.getElem?_set_ne qk] at hk sk
        exact en.sep j k ds es a hj hk sj sk
theorem gn_ok {C : Ct} {σ : L2.St} {δ : DEnv} {H U : Hp} {v : V} {r : Sl} {i : Nat} {k : DEnv → Prop} (en : En C σ δ H U) (o : RsOk C σ δ H U v r) (h : gN i r δ k) : ∃ δ' U', k δ' ∧ Same U U' ∧ En C (σ.set i (some v)) δ' H U' := by
  cases r with
  | emp => exact h.elim
  | pub d => exact ⟨_, U, h, Same.refl _, en.set o fun _ _ z => nomatch z⟩
  | sup => exact ⟨_, U, h, Same.refl _, en.set o fun _ _ z => nomatch z⟩
  | supn n => exact h.elim
  | dto n => exact o.elim
  | own ds =>
    obtain ⟨a, rfl, o1, o2⟩ := o
    exact ⟨_, U, h, Same.refl _, en.set ⟨a, rfl, o1⟩ fun b ds' z1 z2 j es _ hj => by cases z2; exact o2 j es hj⟩
  | var j =>
    obtain ⟨d, h1, h2⟩ := h
    obtain ⟨U2, s2, en2⟩ := en.pb j
    obtain ⟨u, g1, g2⟩ := en2.get (pb_pub h1)
    have o : σ[j]? = some (some v) := o
    rw [o] at g1
    cases g1
    exact ⟨_, U2, h2, s2, en2.set g2 fun _ _ z => nomatch z⟩
theorem d_gn {i : Nat} {x : Str} (hN : X.N.Nodup) (hi : X.N[i]? = some x) (hx : Loc X.env.scope x) (hf : X.fn x = true ∨ X.env.scope.names.lookup x = some .local := by first | exact .inl rfl | exact .inr rfl | assumption) : PG X (.Name x pos) (lG F X.K true (gN i)) :=
  PG.imp (pg_name hN hi hx hf) fun v σ H Q ⟨C, δ, U, k, r, e1, e2, en, o, h, q⟩ => by
    have o := rsB_ok o
    obtain ⟨δ', U', hk, s, en'⟩ := gn_ok en o h
    exact q δ' hk _ _ U' s en'
def lGs (F : Fam) (K : PySem.W.Frag) (l : List DG) : TGs := fun vs σ H Q => ∃ C δ U ds k, C.K = K ∧ C.F = F ∧ En C σ δ H U ∧ DdAll C.K U vs ds ∧ gs l ds δ k ∧ ∀ δ', k δ' → ∀ σ' H' U', Same U U' → En C σ' δ' H' U' → Q σ' H'
theorem d_gnil : PGs X [] (lGs F X.K []) := PGs.imp pgs_nil fun vs σ H Q ⟨C, δ, U, ds, k, e1, e2, en, o, h, q⟩ => by
  cases o with
  | nil => exact ⟨rfl, q δ h _ _ U (Same.refl _) en⟩
  | cons _ _ => exact False.elim h
theorem d_gcons {g : DG} {l : List DG} (h1 : PG X e (lG F X.K true g)) (h2 : PGs X es (lGs F X.K l)) (hs : (assignEach (e :: es) X.env).map (·.2) = assign e X.env :: (assignEach es X.env).map (·.2) := by rfl) : PGs X (e :: es) (lGs F X.K (g :: l)) := PGs.imp (pgs_cons h1 h2 hs) fun vs σ H Q ⟨C, δ, U, ds, k, e1, e2, en, o, h, q⟩ => by
  cases o with
  | nil => exact False.elim h
  | cons o1 o2 =>
    refine ⟨_, _, rfl, C, δ, U, _, .pub _, e1, e2, en, rsB_of o1, h, fun δ' hk σ' H' U' s en' => ?_⟩
    exact ⟨C, δ', U', _, k, e1, e2, en', o2.same s, hk, fun δ2 hk2 σ2 H2 U2 s2 en2 => q δ2 hk2 σ2 H2 U2 (s.trans s2) en2⟩
theorem d_gtup {x1} {l : List DG} {b : Bool} (hc : X.calm = true) (h : PGs X es (lGs F X.K l)) (hn : (assignEach es X.env).length = l.length := by rfl) (hst : (assignEach es X.env).findIdx? (·.1) = none := by rfl) : PG X (.Tuple es x1 pos) (lG F X.K b (gT l)) := by
  refine PG.imp (pg_tup (n := l.length) hc h hn hst) fun v σ H Q ⟨C, δ, U, k, r, e1, e2, en, o, hg, q⟩ => ?_
  obtain ⟨ds, h1, h2, h3⟩ := hg
  have go : RsOk C σ δ H U v r → gTup X.K l.length (lGs F X.K l) v σ H Q := fun o => by
    obtain ⟨U', s', en', ho⟩ := hold_of en o
    rcases rdb_of en' ho h1 with hd | ⟨_, _, _, _, z, _⟩
    · cases hd with
      | tup ht ha =>
        exact ⟨_, _, rfl, (ht.same en'.wd.sub).sq, by rw [ha.len, h2], C, δ, U', ds, k, e1, e2, en', ha, h3, fun δ2 hk2 σ2 H2 U2 s2 en2 => q δ2 hk2 σ2 H2 U2 (s'.trans s2) en2⟩
    · cases z
  cases r with
  | pub d =>
    rcases o with o | ⟨_, a, xs, es', rfl, rfl, ht, ha⟩
    · exact go o
    · cases h1
      exact ⟨_, _, rfl, e1 ▸ sameT en.wd.sub ht, by rw [ha.len, h2], C, δ, U, _, k, e1, e2, en, ha, h3, fun δ2 hk2 σ2 H2 U2 s2 en2 => q δ2 hk2 σ2 H2 U2 s2 en2⟩
  | _ => exact go o
/-! statements -/
theorem ds_nil : PSs X [] (lS F X.K sNx) := PSs.imp pss_nil fun D σ H ⟨C, δ, U, DD, e1, e2, en, w, ok⟩ => ok.nx δ w σ H U en
theorem EndsOk.seq {C : Ct} {DD : DEnds} {D : L2.Ends} {w : DS} (e1 : C.K = X.K) (e2 : C.F = F) (ok : EndsOk C DD D) : EndsOk C { DD with nx := w DD } { D with nx := lS F X.K w D } :=
  ⟨fun δ hw σ H U en => ⟨C, δ, U, DD, e1, e2, en, hw, ok⟩, ok.bk, ok.ct, ok.rt⟩
theorem ds_cons {st : Stmt} {rest : List Stmt} {w u : DS} (h1 : PS X st (lS F X.K w)) (h2 : PSs X rest (lS F X.K u)) : PSs X (st :: rest) (lS F X.K (sSeq w u)) := PSs.imp (pss_cons h1 h2) fun D σ H ⟨C, δ, U, DD, e1, e2, en, hw, ok⟩ =>
  ⟨C, δ, U, _, e1, e2, en, hw, ok.seq e1 e2⟩
theorem ds_one {st : Stmt} {w : DS} (h1 : PS X st (lS F X.K w)) : PSs X [st] (lS F X.K w) := pss_one h1
theorem ds_pass : PS X (.Pass pos) (lS F X.K sNx) := PS.imp ps_pass fun D σ H ⟨C, δ, U, DD, e1, e2, en, w, ok⟩ => ok.nx δ w σ H U en
theorem ds_brk : PS X (.Break pos) (lS F X.K sBrk) := PS.imp ps_break fun D σ H ⟨C, δ, U, DD, e1, e2, en, w, ok⟩ => ok.bk δ w σ H U en
theorem ds_cnt : PS X (.Continue pos) (lS F X.K sCnt) := PS.imp ps_continue fun D σ H ⟨C, δ, U, DD, e1, e2, en, w, ok⟩ => ok.ct δ w σ H U en
theorem ds_never {st : Stmt} : PS X st (lS F X.K sNever) := PS.imp ps_never fun D σ H ⟨C, δ, U, DD, e1, e2, en, w, ok⟩ => w
theorem dss_never {st : List Stmt} : PSs X st (lS F X.K sNever) := PSs.imp pss_never fun D σ H ⟨C, δ, U, DD, e1, e2, en, w, ok⟩ => w
theorem ds_exp (he : PE X e (lE F X.K wa)) (hs : swapsWith e none pos.line X.env = pure false := by rfl) : PS X (.Expr e pos) (lS F X.K (sExp wa)) := PS.imp (ps_expr he hs) fun D σ H ⟨C, δ, U, DD, e1, e2, en, w, ok⟩ =>
  ⟨C, δ, U, _, e1, e2, en, w, fun r δ' hk v H' U' s en' o => ok.nx δ' hk σ H' U' en'⟩
theorem ret_ok {C : Ct} {σ : L2.St} {δ : DEnv} {H U : Hp} {DD : DEnds} {D : L2.Ends} {v : V} {r : Sl} (ok : EndsOk C DD D) (en : En C σ δ H U) (o : RsOk C σ δ H U v r) (h : retOf DD δ r) : D.rt v H := by
  cases r with
  | emp => exact False.elim h
  | pub d => exact ok.rt _ h v H U en.wd o
  | sup => exact False.elim h
  | supn n => exact False.elim h
  | dto n => exact False.elim h
  | own ds => obtain ⟨a, o1, o2, _⟩ := o; exact ok.rt _ h v H U en.wd ⟨a, o1, o2⟩
  | var i =>
    have o : σ[i]? = some (some v) := o
    simp only [retOf] at h
    split at h
    · rename_i ds hs
      obtain ⟨o', g1, g2⟩ := en.sl i _ hs
      rw [o] at g1; cases g1
      exact ok.rt _ h v H U en.wd g2
    · rename_i d hs
      obtain ⟨o', g1, g2⟩ := en.sl i _ hs
      rw [o] at g1; cases g1
      exact ok.rt _ h v H U en.wd g2
    · exact h.elim
theorem ds_ret (he : PE X e (lE F X.K wa)) : PS X (.Return (some e) pos) (lS F X.K (sRet wa)) := PS.imp (ps_ret he) fun D σ H ⟨C, δ, U, DD, e1, e2, en, w, ok⟩ =>
  ⟨C, δ, U, _, e1, e2, en, w, fun r δ' hk v H' U' s en' o => ret_ok ok en' o hk⟩
theorem ds_retN : PS X (.Return none pos) (lS F X.K sRetN) := PS.imp ps_retN fun D σ H ⟨C, δ, U, DD, e1, e2, en, w, ok⟩ => ok.rt _ w _ H U en.wd (show Dd _ _ _ _ from .non)
theorem ds_if {c : Expr} {sa sb : List Stmt} {ua ub : DS} (hc : PT X c (lT F X.K wc)) (ha : PSs X sa (lS F X.K ua)) (hb : PSs X sb (lS F X.K ub)) : PS X (.If c sa sb pos) (lS F X.K (sIf wc ua ub)) := PS.imp (ps_if hc ha hb) fun D σ H ⟨C, δ, U, DD, e1, e2, en, w, ok⟩ => by
  refine ⟨C, δ, U, _, e1, e2, en, w, fun k δ' hk H' U' s en' => ?_⟩
  cases k with
  | true => exact iteT ⟨C, δ', U', DD, e1, e2, en', (by simpa using hk), ok⟩
  | false => exact iteF ⟨C, δ', U', DD, e1, e2, en', (by simpa using hk), ok⟩
theorem set_ok {i : Nat} {D : L2.Ends} {σ : L2.St} {H : Hp} (h : lS F X.K (sAsg wa (gN i)) D σ H) : tAsg (lE F X.K wa) (gName i) D σ H := by
  obtain ⟨C, δ, U, DD, e1, e2, en, w, ok⟩ := h
  refine ⟨C, δ, U, _, e1, e2, en, w, fun r δ' hk v H' U' s en' o => ?_⟩
  obtain ⟨δ2, U2, k2, s2, en2⟩ := gn_ok en' o hk
  exact ok.nx δ2 k2 _ _ U2 en2
theorem ds_set {i : Nat} {x : Str} {pos' : Pos} (hN : X.N.Nodup) (hi : X.N[i]? = some x) (hx : Loc X.env.scope x) (he : PE X e (lE F X.K wa)) (hs : swapsWith e (some (.Name x pos')) pos.line X.env = pure false := by rfl)
    (hf : X.fn x = true ∨ X.env.scope.names.lookup x = some .local := by first | exact .inl rfl | exact .inr rfl) : PS X (.Assign [.Name x pos'] e pos) (lS F X.K (sAsg wa (gN i))) := PS.imp (ps_set hN hi hx he hs hf) fun D σ H h => set_ok h
theorem ds_asg {tg : Expr} {g : DG} (he : PE X e (lE F X.K wa)) (hg : PG X tg (lG F X.K true g)) (hs : swapsWithSole [tg] e pos.line X.env = pure false := by rfl) (hw : swappedStores [tg] e X.env = pure none := by rfl)
    (h1 : (assignEach [tg] X.env).map (·.2) = [assign tg X.env] := by rfl) : PS X (.Assign [tg] e pos) (lS F X.K (sAsg wa g)) := PS.imp (ps_asg he hg hs hw h1) fun D σ H ⟨C, δ, U, DD, e1, e2, en, w, ok⟩ =>
  ⟨C, δ, U, _, e1, e2, en, w, fun r δ' hk v H' U' s en' o => ⟨C, δ', U', _, r, e1, e2, en', rsB_of o, hk, fun δ2 hk2 σ2 H2 U2 s2 en2 => ok.nx δ2 hk2 σ2 H2 U2 en2⟩⟩
/-! a, b = x, y -/
theorem HA.ext {C : Ct} {σ : L2.St} {δ : DEnv} {H U H' U' : Hp} (w : Wd C H U) (x : ExtK C H U H' U') : ∀ {vs : List V} {rs : List Sl}, HA C σ δ H U vs rs → HA C σ δ H' U' vs rs
  | _, _, .nil => .nil
  | _ :: _, r :: _, .cons h1 h2 h3 => by
    refine .cons ?_ h2 (h3.ext w x)
    cases r with
    | own ds => obtain ⟨a, e, o, n⟩ := h1; exact ⟨a, e, o.ext w x, n⟩
    | pub d => exact Dd.same x.us h1
    | var i => exact h1
    | sup => exact h1
    | supn n => exact h1
    | dto n => exact h1
    | emp => exact h1
theorem HA.set {C : Ct} {σ : L2.St} {δ : DEnv} {H U : Hp} {v : V} {r : Sl} {i : Nat} (en : En C σ δ H U) : ∀ {vs : List V} {rs : List Sl}, rs.all noVar = true → (∀ a ds, r = .own ds → v = .ref a → ∀ (j : Nat) b es, rs[j]? = some (.own es) → vs[j]? = some (V.ref b) → b ≠ a) → HA C σ δ H U vs rs → HA C (σ.set i (some v)) (δ.set i r) H U vs rs
  | _, _, _, _, .nil => .nil
  | u :: _, s :: _, hv, hne, .cons h1 h2 h3 => by
    rw [List.all_cons, Bool.and_eq_true] at hv
    refine .cons ?_ h2 (h3.set en hv.2 fun a ds e1 e2 j b es e3 e4 => hne a ds e1 e2 (j + 1) b es (by simpa using e3) (by simpa using e4))
    cases s with
    | pub d => exact h1
    | var i => exact absurd hv.1 (by simp [noVar])
    | sup => exact h1
    | supn n => exact h1
    | dto n => exact h1
    | emp => exact h1
    | own ds =>
      obtain ⟨b, rfl, o, n⟩ := h1
      refine ⟨b, rfl, o, fun k es hk hs => ?_⟩
      by_cases q : i = k
      · subst q
        rcases Nat.lt_or_ge i δ.length with hi | hi
        · rw [List.getElem?_set_self hi] at hk
          rw [List.getElem?_set_self (by rw [en.len]; exact hi)] at hs
          cases hk
          cases hs
          exact hne b es rfl rfl 0 b ds rfl rfl rfl
        · rw [List.getElem?_eq_none (by rw [List.length_set]; exact hi)] at hk; cases hk
      · rw [List.getElem?_set_ne q] at hk hs
        exact n k es hk hs
def setsV : L2.St → List Nat → List V → L2.St
  | σ, i :: is, v :: vs => setsV (σ.set i (some v)) is vs
  | σ, _, _ => σ
theorem par_ok {C : Ct} {H U : Hp} : ∀ {is : List Nat} {σ : L2.St} {δ : DEnv} {vs : List V} {rs : List Sl} {k : DEnv → Prop}, En C σ δ H U → HA C σ δ H U vs rs → rs.all noVar = true → gsl (is.map gN) rs δ k → ∃ δ', k δ' ∧ En C (setsV σ is vs) δ' H U
  | [], σ, δ, _, _, k, en, .nil, _, h => ⟨δ, h, en⟩
  | [], σ, δ, _, _, k, en, .cons _ _ _, _, h => False.elim h
  | i :: is, σ, δ, _, _, k, en, .nil, _, h => False.elim h
  | i :: is, σ, δ, v :: vs, r :: rs, k, en, .cons h1 h2 h3, hv, h => by
    rw [List.all_cons, Bool.and_eq_true] at hv
    have step : ∀ (hs : SlOk C H U (some v) r) (hn : ∀ a ds, r = .own ds → v = .ref a → ∀ (j : Nat) es, j ≠ i → δ[j]? = some (.own es) → σ[j]? ≠ some (some (V.ref a))) (hg : gsl (is.map gN) rs (δ.set i r) k), ∃ δ', k δ' ∧ En C (setsV σ (i :: is) (v :: vs)) δ' H U := fun hs hn hg =>
      par_ok (is := is) (en.set hs hn) (h3.set en hv.2 h2) hv.2 hg
    cases r with
    | pub d => exact step h1 (fun _ _ z => nomatch z) h
    | sup => exact step h1 (fun _ _ z => nomatch z) h
    | supn n => exact False.elim h
    | dto n => exact h1.elim
    | emp => exact h1.elim
    | var j => exact absurd hv.1 (by simp [noVar])
    | own ds =>
      obtain ⟨a, rfl, o, n⟩ := h1
      exact step ⟨a, rfl, o⟩ (fun b _ _ e j es _ hj => by cases e; exact n j es hj) h
section
variable {i j l : Nat} {x y z : Str} {px py pz pt pt2 : Pos} {kt k2 : Nat}
theorem ds_par2 {a b : Expr} (hc : X.calm = true) (hN : X.N.Nodup) (hi : X.N[i]? = some x) (hj : X.N[j]? = some y) (hij : i ≠ j)
    (hx : X.env.scope.names.lookup x = some .local) (hy : X.env.scope.names.lookup y = some .local) (ha : PA X [a, b] (lA F X.K ws))
    (hw : swappedStores [.Tuple [.Name x px, .Name y py] kt pt] (.Tuple [a, b] k2 pt2) X.env = pure (some [x, y]) := by rfl)
    (hs : swapsWithSole [.Tuple [.Name x px, .Name y py] kt pt] (.Tuple [a, b] k2 pt2) pos.line X.env = pure false := by rfl) :
    PS X (.Assign [.Tuple [.Name x px, .Name y py] kt pt] (.Tuple [a, b] k2 pt2) pos) (lS F X.K (sPar [i, j] ws)) := PS.imp (ps_par hc hN hi hj hij hx hy ha hw hs) fun D σ H ⟨C, δ, U, DD, e1, e2, en, w, ok⟩ => by
  refine ⟨C, δ, U, _, e1, e2, en, w, fun rs δ' hk vs H' U' s en' ho => ?_⟩
  obtain ⟨h1, h2, h3, h4⟩ := hk
  obtain ⟨δ2, k2, en2⟩ := par_ok en' ho h2 h4
  have hl := ho.len
  rw [h1] at hl
  match vs, hl with
  | [v, w], _ => exact ⟨v, w, rfl, ok.nx δ2 k2 _ _ U' en2⟩
theorem ds_par3 {a b c : Expr} (hc : X.calm = true) (hN : X.N.Nodup) (hi : X.N[i]? = some x) (hj : X.N[j]? = some y) (hl : X.N[l]? = some z) (hij : i ≠ j) (hil : i ≠ l) (hjl : j ≠ l)
    (hx : X.env.scope.names.lookup x = some .local) (hy : X.env.scope.names.lookup y = some .local) (hz : X.env.scope.names.lookup z = some .local) (ha : PA X [a, b, c] (lA F X.K ws))
    (hw : swappedStores [.Tuple [.Name x px, .Name y py, .Name z pz] kt pt] (.Tuple [a, b, c] k2 pt2) X.env = pure (some [x, y, z]) := by rfl)
    (hs : swapsWithSole [.Tuple [.Name x px, .Name y py, .Name z pz] kt pt] (.Tuple [a, b, c] k2 pt2) pos.line X.env = pure false := by rfl) :
    PS X (.Assign [.Tuple [.Name x px, .Name y py, .Name z pz] kt pt] (.Tuple [a, b, c] k2 pt2) pos) (lS F X.K (sPar [i, j, l] ws)) := PS.imp (ps_par3 hc hN hi hj hl hij hil hjl hx hy hz ha hw hs) fun D σ H ⟨C, δ, U, DD, e1, e2, en, w, ok⟩ => by
  refine ⟨C, δ, U, _, e1, e2, en, w, fun rs δ' hk vs H' U' s en' ho => ?_⟩
  obtain ⟨h1, h2, h3, h4⟩ := hk
  obtain ⟨δ2, k2, en2⟩ := par_ok en' ho h2 h4
  have hl := ho.len
  rw [h1] at hl
  match vs, hl with
  | [v, w, u], _ => exact ⟨v, w, u, rfl, ok.nx δ2 k2 _ _ U' en2⟩
end
def lNs (F : Fam) (K : PySem.W.Frag) (is : List Nat) : TGs := fun vs σ H Q => ∃ C δ U rs k, C.K = K ∧ C.F = F ∧ En C σ δ H U ∧ HA C σ δ H U vs rs ∧ rs.all noVar = true ∧ gsl (is.map gN) rs δ k ∧ ∀ δ', k δ' → ∀ σ' H' U', En C σ' δ' H' U' → Q σ' H'
theorem d_nnil : PGs X [] (lNs F X.K []) := PGs.imp pgs_nil fun vs σ H Q ⟨C, δ, U, ds, k, e1, e2, en, o, hv, h, q⟩ => by
  cases o with
  | nil => exact ⟨rfl, q δ h _ _ U en⟩
  | cons _ _ _ => exact False.elim h
theorem d_ncons {i : Nat} {x : Str} {is : List Nat} (hN : X.N.Nodup) (hi : X.N[i]? = some x) (hx : Loc X.env.scope x) (h2 : PGs X es (lNs F X.K is)) (hf : X.fn x = true ∨ X.env.scope.names.lookup x = some .local := by first | exact .inl rfl | exact .inr rfl | assumption)
    (hs : (assignEach (.Name x pos :: es) X.env).map (·.2) = assign (.Name x pos) X.env :: (assignEach es X.env).map (·.2) := by rfl) : PGs X (.Name x pos :: es) (lNs F X.K (i :: is)) := PGs.imp (pgs_cons (pg_name hN hi hx hf) h2 hs) fun vs σ H Q ⟨C, δ, U, rs, k, e1, e2, en, o, hv, h, q⟩ => by
  cases o with
  | nil => exact False.elim h
  | @cons v r vs rs h1 h2 h3 =>
    rw [List.all_cons, Bool.and_eq_true] at hv
    refine ⟨v, vs, rfl, ?_⟩
    have step : ∀ (hs : SlOk C H U (some v) r) (hn : ∀ a ds, r = .own ds → v = .ref a → ∀ (j : Nat) es, j ≠ i → δ[j]? = some (.own es) → σ[j]? ≠ some (some (V.ref a))) (hg : gsl (is.map gN) rs (δ.set i r) k), lNs F X.K is vs (σ.set i (some v)) H Q := fun hs hn hg =>
      ⟨C, δ.set i r, U, rs, k, e1, e2, en.set hs hn, h3.set en hv.2 h2, hv.2, hg, q⟩
    cases r with
    | pub d => exact step h1 (fun _ _ z => nomatch z) h
    | sup => exact step h1 (fun _ _ z => nomatch z) h
    | supn n => exact False.elim h
    | dto n => exact h1.elim
    | emp => exact h1.elim
    | var j => exact absurd hv.1 (by simp [noVar])
    | own ds =>
      obtain ⟨a, rfl, o, n⟩ := h1
      exact step ⟨a, rfl, o⟩ (fun b _ _ e j es _ hj => by cases e; exact n j es hj) h
theorem ds_parT {tgs es : List Expr} {is : List Nat} {kt k2 : Nat} {pt pt2 : Pos} (hc : X.calm = true) (hg : PGs X tgs (lNs F X.K is)) (ha : PA X es (lA F X.K ws))
    (hn : (assignEach tgs X.env).length = is.length := by rfl) (hst : (assignEach tgs X.env).findIdx? (·.1) = none := by rfl)
    (hs : swapsWithSole [.Tuple tgs kt pt] (.Tuple es k2 pt2) pos.line X.env = pure false := by rfl) (hw : swappedStores [.Tuple tgs kt pt] (.Tuple es k2 pt2) X.env = pure none := by rfl)
    (h1 : (assignEach [.Tuple tgs kt pt] X.env).map (·.2) = [assign (.Tuple tgs kt pt) X.env] := by rfl) : PS X (.Assign [.Tuple tgs kt pt] (.Tuple es k2 pt2) pos) (lS F X.K (sPar is ws)) := PS.imp (ps_asg (pe_tup ha) (pg_tup (n := is.length) hc hg hn hst) hs hw h1) fun D σ H ⟨C, δ, U, DD, e1, e2, en, w, ok⟩ => by
  refine ⟨C, δ, U, _, e1, e2, en, w, fun rs δ' hk vs H' U' s en' ho => ?_⟩
  obtain ⟨h1, h2, h3, h4⟩ := hk
  refine ⟨by rw [ho.len]; exact line10 h3, fun p hp => ⟨p, vs, rfl, SqT.of upd_same, by rw [ho.len, h1], ?_⟩⟩
  have x : ExtK C H' U' (upd H' p (.tup vs)) U' := Ext.priv en'.wd hp
  exact ⟨C, δ', U', rs, _, e1, e2, en'.ext x, ho.ext en'.wd x, h2, h4, fun δ2 hk2 σ2 H2 U2 en2 => ok.nx δ2 hk2 σ2 H2 U2 en2⟩
end
end DX

namespace DX
open PySem PySem.Spec L2 KX
open PyProof.Rows hiding St
/-! what is walked, as data -/
structure WalkD (b : Bool) (C : Ct) (U0 : Hp) (J : It) (xs : List PyData) : Prop where
  ex : ∃ (G : Hp → Prop) (Y : Nat → Hp → V → Hp → Prop), Walk J xs.length G Y ∧ (∀ H U, Same U0 U → Same U H → G H) ∧
    ∀ i H U x H', Wd C H U → Same U0 U → i < xs.length → Y i H x H' → ∃ U' d, ExtK C H U H' U' ∧ xs[i]? = some d ∧ Di b C.K U' x d
def lI (b : Bool) (F : Fam) (K : PySem.W.Frag) (w : DI) : TI := fun σ H R => ∃ C δ U k, C.K = K ∧ C.F = F ∧ En C σ δ H U ∧ w δ k ∧ ∀ xs δ', k xs δ' → ∀ J H' U', Same U U' → En C σ δ' H' U' → (∀ C' : Ct, C'.K = K → WalkD b C' U' J xs) → R J H'
section
variable {X : Cx} {F : Fam} {e tg : Expr} {wa wb : DE} {pos : Pos}
theorem PI.imp {t t' : TI} (h : PI X tg e t) (i : ∀ σ H Q, t' σ H Q → t σ H Q) : PI X tg e t' := ⟨fun pins s σ H Q I q => h.run pins s σ H Q I (i σ H Q q)⟩
/-- a list or a tuple, whichever it is -/
def iSeq (K : PySem.W.Frag) (tl : TE) : TI := fun σ H R => tl σ H fun x H1 => ∃ a, x = .ref a ∧ (((∃ xs, SqL K H1 a xs) ∧ R (Itl K a) H1) ∨ ((∃ xs, SqT K H1 a xs) ∧ R (Itt K a) H1))
theorem pi_seq {l : Expr} {tl : TE} (hl : PE X l tl) : PI X tg l (iSeq X.K tl) := by
  refine ⟨fun pins s σ H R I h => ?_⟩
  refine thn (hl.run pins s σ H _ I h) fun v s1 ⟨x, H1, I1, r1, q1⟩ => ?_
  obtain ⟨a, e, q1⟩ := q1
  subst e
  cases r1
  rcases q1 with ⟨⟨xs, hq⟩, q⟩ | ⟨⟨xs, hq⟩, q⟩
  · obtain ⟨its, rv, p, hz⟩ := I1.list hq
    refine wpAny_pyIter_list p.isList ?_
    refine ⟨s1.heap.objs.size, [s1.heap.objs.size], _, _, H1, rfl, I1.kept (t' := s1.toks) fun b o e => Heap.get?_push_of_some _ e, turn_list a _, ⟨_, Heap.get?_push_size _ rfl, rfl, rfl⟩, fun b hb => ?_, q⟩
    have e : b = s1.heap.objs.size := by simpa using hb
    subst e
    exact I1.fpOk (Nat.le_refl _) (I1.hok.fresh (Nat.le_refl _))
  · obtain ⟨its, rv, p, hz⟩ := I1.tuple hq
    refine wpAny_pyIter_tuple (show s1.heap.IsTuple a its.toArray from p) ?_
    refine ⟨s1.heap.objs.size, [s1.heap.objs.size], _, _, H1, rfl, I1.kept (t' := s1.toks) fun b o e => Heap.get?_push_of_some _ e, turn_tuple a _, ⟨_, Heap.get?_push_size _ rfl, rfl, rfl⟩, fun b hb => ?_, q⟩
    have e : b = s1.heap.objs.size := by simpa using hb
    subst e
    exact I1.fpOk (Nat.le_refl _) (I1.hok.fresh (Nat.le_refl _))
theorem walk_seq {C : Ct} {U0 : Hp} {vs : List V} {xs : List PyData} {J : It} {G : Hp → Prop} (w : Walk J vs.length G (YAt vs)) (hd : DdAll C.K U0 vs xs) (hG : ∀ H U, Same U0 U → Same U H → G H) : WalkD true C U0 J xs := by
  refine ⟨G, YAt vs, hd.len ▸ w, hG, fun i H U x H' wd s hi y => ?_⟩
  obtain ⟨rfl, hx⟩ := y
  obtain ⟨d, h1, h2⟩ := hd.getV hx
  exact ⟨U, d, Ext.refl wd, h1, .inl (Dd.same s h2)⟩
theorem di_x (h : PE X e (lE F X.K wa)) : PI X tg e (lI true F X.K (iX wa)) := PI.imp (pi_seq (d_p h)) fun σ H R ⟨C, δ, U, k, e1, e2, en, w, q⟩ => by
  refine ⟨C, δ, U, _, e1, e2, en, w, fun r δ' hk v H' U' s en' o => ?_⟩
  obtain ⟨ds, hr, hk⟩ := hk
  rcases hr with rfl | rfl
  · cases o with
    | lst hl ha =>
      refine ⟨_, rfl, .inl ⟨⟨_, SqL.of (en'.wd.sub _ _ hl)⟩, q ds δ' hk _ H' U' s en' fun C' hC => ?_⟩⟩
      exact walk_seq walk_list (by rw [hC, ← e1]; exact ha) fun H U s1 s2 => SqL.of (s2 _ _ (s1 _ _ hl))
  · cases o with
    | tup hl ha =>
      refine ⟨_, rfl, .inr ⟨⟨_, (hl.same en'.wd.sub).sq⟩, q ds δ' hk _ H' U' s en' fun C' hC => ?_⟩⟩
      exact walk_seq walk_tup (by rw [hC, ← e1]; exact ha) fun H U s1 s2 => (hl.same (s1.trans s2)).sq
theorem rng_get {lo : Int} {n i : Nat} (h : i < n) : (rngD lo n)[i]? = some (.int (lo + (i : Int))) := by simp [rngD, h]
theorem rng_len {lo : Int} {n : Nat} : (rngD lo n).length = n := by simp [rngD]
theorem walk_rng {C : Ct} {U0 : Hp} {lo : Int} {n : Nat} : WalkD true C U0 (Itr lo n) (rngD lo n) := by
  refine ⟨_, _, (by rw [rng_len]; exact walk_range), fun _ _ _ _ => trivial, fun i H U x H' wd s hi y => ?_⟩
  obtain ⟨rfl, rfl⟩ := y
  exact ⟨U, _, Ext.refl wd, rng_get (by rw [rng_len] at hi; exact hi), .inl (.int _)⟩
theorem int_of {C : Ct} {σ : L2.St} {δ : DEnv} {H U : Hp} {v : V} {r : Sl} {i : Int} (en : En C σ δ H U) (ho : Hold C σ U v r) (h : rd δ r = some (.int i)) : v = .int i := by
  rcases rdb_of en ho h with h | ⟨_, _, _, _, h, _⟩
  · cases h; rfl
  · cases h
theorem di_r1 {ws : DA} {p : Pos} (hg : Gl X "range") (hm : X.mg "range" = none) (ha : PA X [e] (lA F X.K ws)) (hs : starEach [e] X.env = [(false, eval e X.env)] := by rfl) : PI X tg (.Call (.Name "range" p) [e] [] pos) (lI true F X.K (iR1 ws)) := PI.imp (pi_range1 hg hm ha hs) fun σ H R ⟨C, δ, U, k, e1, e2, en, w, q⟩ => by
  refine ⟨C, δ, U, _, e1, e2, en, w, fun rs δ' hk vs H' U0 s0 en0 ho => ?_⟩
  obtain ⟨r, j, rfl, hr, hj, hk⟩ := hk
  obtain ⟨U', s1, en', ho⟩ := hold_all en0 ho
  cases ho with
  | cons h1 h2 =>
    cases h2
    obtain rfl := int_of en' h1 hr
    exact ⟨j, rfl, hj.1, hj.2, q _ δ' hk _ H' U' (s0.trans s1) en' fun C' _ => walk_rng⟩
theorem di_r2 {ws : DA} {a b : Expr} {p : Pos} (hg : Gl X "range") (hm : X.mg "range" = none) (ha : PA X [a, b] (lA F X.K ws)) (hs : starEach [a, b] X.env = [(false, eval a X.env), (false, eval b X.env)] := by rfl) (hs2 : starEach [b] X.env = [(false, eval b X.env)] := by rfl) : PI X tg (.Call (.Name "range" p) [a, b] [] pos) (lI true F X.K (iR2 ws)) := PI.imp (pi_range2 hg hm ha hs hs2) fun σ H R ⟨C, δ, U, k, e1, e2, en, w, q⟩ => by
  refine ⟨C, δ, U, _, e1, e2, en, w, fun rs δ' hk vs H' U0 s0 en0 ho => ?_⟩
  obtain ⟨r, s, i, j, rfl, hr, hs, hi, hj, hk⟩ := hk
  obtain ⟨U', s1, en', ho⟩ := hold_all en0 ho
  cases ho with
  | cons h1 h2 =>
    cases h2 with
    | cons h2 h3 =>
      cases h3
      obtain rfl := int_of en' h1 hr
      obtain rfl := int_of en' h2 hs
      exact ⟨i, j, rfl, ⟨hi.1, hi.2, hj.1, hj.2⟩, q _ δ' hk _ H' U' (s0.trans s1) en' fun C' _ => walk_rng⟩
/-! loops -/
def Ct.look (C : Ct) (U : Hp) : Ct := { C with U0 := U }
theorem En.look {C : Ct} {σ : L2.St} {δ : DEnv} {H U : Hp} (en : En C σ δ H U) : En (C.look U) σ δ H U :=
  ⟨⟨en.wd.sub, en.wd.old, Same.refl _, fun _ _ e => .inl e, en.wd.rok, en.wd.rv, en.wd.r0⟩, en.len, fun i s h => let ⟨o, h1, h2⟩ := en.sl i s h; ⟨o, h1, by cases s <;> cases o <;> exact h2⟩, en.sep⟩
theorem Wd.unlook {C : Ct} {H1 U1 H U : Hp} (w1 : Wd C H1 U1) (w : Wd (C.look U1) H U) : Wd C H U :=
  ⟨w.sub, w.old, w1.vold.trans w.vold, fun a o e => (w.new a o e).elim (fun z => w1.new a o z) .inr, w.rok, w.rv, w.r0⟩
theorem En.unlook {C : Ct} {σ : L2.St} {δ : DEnv} {H1 U1 H U : Hp} (w1 : Wd C H1 U1) (en : En (C.look U1) σ δ H U) : En C σ δ H U :=
  ⟨w1.unlook en.wd, en.len, fun i s h => let ⟨o, h1, h2⟩ := en.sl i s h; ⟨o, h1, by cases s <;> cases o <;> exact h2⟩, en.sep⟩
theorem EndsOk.look {C : Ct} {DD : DEnds} {D : L2.Ends} {H1 U1 : Hp} (w1 : Wd C H1 U1) (ok : EndsOk C DD D) : EndsOk (C.look U1) DD D :=
  ⟨fun δ h σ H U en => ok.nx δ h σ H U (en.unlook w1), fun δ h σ H U en => ok.bk δ h σ H U (en.unlook w1), fun δ h σ H U en => ok.ct δ h σ H U (en.unlook w1), fun r h v H U w o => ok.rt r h v H U (w1.unlook w) (by cases r <;> exact o)⟩
theorem ds_for {iter : Expr} {body : List Stmt} {it : DI} {g : DG} {b : DS} {wk : Bool} (hp : PassesOwn (model X.prog X.w) X.A X.env X.xe) (hc : X.calm = true) (hi : PI X tg iter (lI wk F X.K it)) (hg : PG X tg (lG F X.K wk g)) (hb : PSs X body (lS F X.K b)) (hx : ∀ x, foldedSetIterable iter X.env x = pure x := by intro _; rfl) : PS X (.For tg iter body [] pos) (lS F X.K (sFor it g b)) := PS.imp (ps_for hp hc hi hg hb hx) fun D σ H ⟨C, δ, U, DD, e1, e2, en, w, ok⟩ => by
  refine ⟨C, δ, U, _, e1, e2, en, w, fun xs δ' hk J H' U' s en' hw => ?_⟩
  obtain ⟨G, Y, wlk, hG, hY⟩ := (hw (C.look U') e1).ex
  have ok2 := ok.look en'.wd
  refine for_it wlk (fun i σ H => ∃ δ U, En (C.look U') σ δ H U ∧ forGo g b DD (xs.drop i) δ) ⟨δ', U', en'.look, hk⟩ (fun i σ H _ ⟨δ, U, en, _⟩ => hG H U en.wd.vold en.wd.sub) (fun i x σ H H2 hi ⟨δ, U, en, hf⟩ y => ?_) (fun σ H ⟨δ, U, en, hf⟩ => ?_)
  · obtain ⟨U2, d, x2, hd, hv⟩ := hY i H U x H2 en.wd en.wd.vold hi y
    have e3 : xs.drop i = d :: xs.drop (i + 1) := by
      obtain ⟨h1, h2⟩ := List.getElem?_eq_some_iff.mp hd
      rw [List.drop_eq_getElem_cons h1, h2]
    rw [e3] at hf
    refine ⟨C.look U', δ, U2, _, .pub d, e1, e2, en.ext x2, hv, hf, fun δ3 hk3 σ3 H3 U3 s3 en3 => ?_⟩
    exact ⟨C.look U', δ3, U3, _, e1, e2, en3, hk3, ⟨fun δ h σ H U en => ⟨δ, U, en, h⟩, ok2.nx, fun δ h σ H U en => ⟨δ, U, en, h⟩, ok2.rt⟩⟩
  · rw [List.drop_length] at hf
    exact ok2.nx δ hf σ H U en
theorem ds_while {c : Expr} {body : List Stmt} {wc : DT} {b : DS} (hp : PassesOwn (model X.prog X.w) X.A X.env X.xe) (hc : PT X c (lT F X.K wc)) (hb : PSs X body (lS F X.K b)) : PS X (.While c body [] pos) (lS F X.K (sWhile wc b)) := PS.imp (ps_while hp hc hb) fun D σ H ⟨C, δ, U, DD, e1, e2, en, w, ok⟩ => by
  obtain ⟨n, w⟩ := w
  refine ⟨fun m σ H => ∃ δ U, En C σ δ H U ∧ whGo wc b DD m δ, ⟨n, δ, U, en, w⟩, fun m σ H ⟨δ, U, en, w⟩ => ?_⟩
  cases m with
  | zero => exact False.elim w
  | succ m =>
    refine ⟨C, δ, U, _, e1, e2, en, w, fun k δ' hk H' U' s en' => ?_⟩
    cases k with
    | true =>
      refine iteT ⟨fun σ H => ∃ δ U, En C σ δ H U ∧ whGo wc b DD m δ, fun σ' H' h => ⟨m, Nat.lt_succ_self m, h⟩, C, δ', U', _, e1, e2, en', (by simpa using hk), ?_⟩
      exact ⟨fun δ h σ H U en => ⟨δ, U, en, h⟩, ok.nx, fun δ h σ H U en => ⟨δ, U, en, h⟩, ok.rt⟩
    | false => exact iteF (ok.nx δ' (by simpa using hk) σ H' U' en')
/-! comprehensions -/
theorem wipe_set {σ : L2.St} {i : Nat} {o : Option V} : ∀ {vs : List Nat}, i ∈ vs → wipe (σ.set i o) vs = wipe σ vs
  | [], h => nomatch h
  | v :: vs, h => by
    unfold wipe
    by_cases q : i = v
    · subst q
      by_cases m : i ∈ vs
      · rw [wipe_set m]
      · have : ∀ (us : List Nat), i ∉ us → wipe (σ.set i o) us = (wipe σ us).set i o := fun us hu => by
          induction us with
          | nil => rfl
          | cons u us ih =>
            simp only [List.mem_cons, not_or] at hu
            unfold wipe
            rw [ih hu.2, List.set_comm _ _ (Ne.symm hu.1).symm]
        rw [this vs m, List.set_set]
    · have m : i ∈ vs := (List.mem_cons.mp h).resolve_left q
      rw [wipe_set m]
theorem wipe_wipe {σ : L2.St} {us : List Nat} : ∀ {vs : List Nat}, (∀ v ∈ vs, v ∈ us) → wipe (wipe σ vs) us = wipe σ us
  | [], _ => rfl
  | v :: vs, h => by
    show wipe ((wipe σ vs).set v none) us = _
    rw [wipe_set (h v List.mem_cons_self)]
    exact wipe_wipe fun u hu => h u (List.mem_cons_of_mem _ hu)
theorem hid_len : ∀ δ : DEnv, (hid δ).length = δ.length
  | [] => rfl
  | .emp :: δ => congrArg (· + 1) (hid_len δ)
  | .pub _ :: δ => congrArg (· + 1) (hid_len δ)
  | .own _ :: δ => congrArg (· + 1) (hid_len δ)
  | .var _ :: δ => congrArg (· + 1) (hid_len δ)
  | .sup :: δ => congrArg (· + 1) (hid_len δ)
  | .supn _ :: δ => congrArg (· + 1) (hid_len δ)
  | .dto _ :: δ => congrArg (· + 1) (hid_len δ)
theorem hid_get : ∀ {δ : DEnv} {i : Nat} {s : Sl}, (hid δ)[i]? = some s → s = .emp ∧ i < δ.length ∨ (δ[i]? = some s ∧ ∀ ds, s ≠ .own ds)
  | [], i, s, h => by simp [hid] at h
  | .own _ :: δ, 0, s, h => by simp [hid] at h; exact .inl ⟨h.symm, by simp⟩
  | .emp :: δ, 0, s, h => by simp [hid] at h; exact .inr ⟨by simp [h], fun ds z => by rw [← h] at z; cases z⟩
  | .pub _ :: δ, 0, s, h => by simp [hid] at h; exact .inr ⟨by simp [h], fun ds z => by rw [← h] at z; cases z⟩
  | .var _ :: δ, 0, s, h => by simp [hid] at h; exact .inr ⟨by simp [h], fun ds z => by rw [← h] at z; cases z⟩
  | .sup :: δ, 0, s, h => by simp [hid] at h; exact .inr ⟨by simp [h], fun ds z => by rw [← h] at z; cases z⟩
  | .supn n :: δ, 0, s, h => by simp [hid] at h; exact .inl ⟨h.symm, by simp⟩
  | .dto n :: δ, 0, s, h => by simp [hid] at h; exact .inl ⟨h.symm, by simp⟩
  | x :: δ, i + 1, s, h => by
    have h' : (hid δ)[i]? = some s := by cases x <;> simpa [hid] using h
    rcases hid_get h' with ⟨h1, h2⟩ | ⟨h1, h2⟩
    · exact .inl ⟨h1, by simp; omega⟩
    · exact .inr ⟨by simpa using h1, h2⟩
theorem hid_no : ∀ {δ : DEnv} {i n : Nat}, (hid δ)[i]? ≠ some (.supn n)
  | [], _, _, h => by simp [hid] at h
  | x :: δ, 0, n, h => by cases x <;> simp [hid] at h
  | x :: δ, i + 1, n, h => by
    have h' : (hid δ)[i]? = some (.supn n) := by cases x <;> simpa [hid] using h
    exact hid_no h'
theorem hid_nod : ∀ {δ : DEnv} {i : Nat} {n : List (Int × Int)}, (hid δ)[i]? ≠ some (.dto n)
  | [], _, _, h => by simp [hid] at h
  | x :: δ, 0, n, h => by cases x <;> simp [hid] at h
  | x :: δ, i + 1, n, h => by
    have h' : (hid δ)[i]? = some (.dto n) := by cases x <;> simpa [hid] using h
    exact hid_nod h'
theorem wip_len {δ : DEnv} : ∀ vs : List Nat, (wip δ vs).length = δ.length
  | [] => rfl
  | v :: vs => by unfold wip; rw [List.length_set, wip_len vs]
/-- the block's start: nothing of one's own -/
theorem En.block {C : Ct} {σ : L2.St} {δ : DEnv} {H U H2 U2 : Hp} (en : En C σ δ H U) (us : Same U U2) (w2 : Wd { C with H0 := H2, U0 := U2 } H2 U2) : ∀ vs : List Nat, En { C with H0 := H2, U0 := U2 } (wipe σ vs) (wip (hid δ) vs) H2 U2
  | [] => by
    refine ⟨w2, by rw [show wipe σ [] = σ from rfl, show wip (hid δ) [] = hid δ from rfl, hid_len]; exact en.len, fun i s h => ?_, fun i j ds es a h1 _ _ _ => ?_⟩
    · rcases hid_get h with ⟨rfl, hi⟩ | ⟨h1, h2⟩
      · have : i < σ.length := by rw [en.len]; exact hi
        exact ⟨σ[i], by rw [show wipe σ [] = σ from rfl]; exact List.getElem?_eq_getElem this, by cases σ[i] <;> trivial⟩
      · obtain ⟨o, g1, g2⟩ := en.sl i s h1
        refine ⟨o, g1, ?_⟩
        cases s with
        | own ds => exact absurd rfl (h2 ds)
        | emp => cases o <;> trivial
        | pub d => cases o with
          | none => exact g2
          | some v => exact Dd.same us g2
        | var j => cases o <;> exact g2
        | sup => cases o <;> exact g2
        | supn n => exact absurd h hid_no
        | dto n => exact absurd h hid_nod
    · rcases hid_get h1 with ⟨z, _⟩ | ⟨_, h2⟩
      · cases z
      · exact absurd rfl (h2 ds)
  | v :: vs => by
    have e := En.block en us w2 vs
    refine ⟨w2, by unfold wipe wip; rw [List.length_set, List.length_set]; exact e.len, fun i s h => ?_, fun i j ds es a h1 h2 h3 h4 => ?_⟩
    · unfold wip at h
      unfold wipe
      by_cases q : v = i
      · subst q
        rcases Nat.lt_or_ge v (wip (hid δ) vs).length with hv | hv
        · rw [List.getElem?_set_self hv] at h
          cases h
          exact ⟨none, List.getElem?_set_self (by rw [e.len]; exact hv), trivial⟩
        · rw [List.getElem?_eq_none (by rw [List.length_set]; exact hv)] at h; cases h
      · rw [List.getElem?_set_ne q] at h ⊢
        exact e.sl i s h
    · unfold wip at h1 h2
      unfold wipe at h3 h4
      have q1 : v ≠ i := fun z => by
        subst z
        rcases Nat.lt_or_ge v (wip (hid δ) vs).length with hv | hv
        · rw [List.getElem?_set_self hv] at h1; cases h1
        · rw [List.getElem?_eq_none (by rw [List.length_set]; exact hv)] at h1; cases h1
      have q2 : v ≠ j := fun z => by
        subst z
        rcases Nat.lt_or_ge v (wip (hid δ) vs).length with hv | hv
        · rw [List.getElem?_set_self hv] at h2; cases h2
        · rw [List.getElem?_eq_none (by rw [List.length_set]; exact hv)] at h2; cases h2
      rw [List.getElem?_set_ne q1] at h1 h3
      rw [List.getElem?_set_ne q2] at h2 h4
      exact e.sep i j ds es a h1 h2 h3 h4
/-- targets of a comprehension: names of the block -/
theorem di_tup {b : Bool} {K : PySem.W.Frag} {U : Hp} {v : V} {ds : List PyData} (h : Di b K U v (.tuple ds)) : ∃ a xs, v = .ref a ∧ SqT K U a xs ∧ DdAll K U xs ds := by
  rcases h with h | ⟨_, a, xs, es, rfl, e, h1, h2⟩
  · cases h with
    | tup ht ha => exact ⟨_, _, rfl, ht.sq, ha⟩
  · cases e
    exact ⟨a, xs, rfl, h1, h2⟩
structure TgOk (b : Bool) (vs : List Nat) (K : PySem.W.Frag) (g : TG) (dg : DG) : Prop where
  run : ∀ (C : Ct) (σ : L2.St) (δ : DEnv) (H U : Hp) (v : V) (d : PyData) (k : DEnv → Prop), C.K = K → En C (wipe σ vs) δ H U → Di b C.K U v d → dg (.pub d) δ k → g v (wipe σ vs) H fun σ2 H2 => H2 = H ∧ wipe σ2 vs = wipe σ vs ∧ ∃ δ2, k δ2 ∧ En C σ2 δ2 H U
theorem tg_name {vs : List Nat} {K : PySem.W.Frag} {i : Nat} (hi : i ∈ vs := by decide) : TgOk true vs K (gName i) (gN i) := ⟨fun C σ δ H U v d k e1 en hd h =>
  have hd : Dd C.K U v d := hd.elim id fun z => nomatch z.1
  ⟨rfl, by rw [wipe_set hi, wipe_wipe fun _ h => h], _, h, en.set hd fun _ _ z => nomatch z⟩⟩
theorem TG.mono_name {i : Nat} {v : V} {σ : L2.St} {H : Hp} {Q Q' : L2.St → Hp → Prop} (h : gName i v σ H Q) (i' : ∀ σ H, Q σ H → Q' σ H) : gName i v σ H Q' := i' _ _ h
theorem tg_two {b : Bool} {vs : List Nat} {K : PySem.W.Frag} {i j : Nat} (hi : i ∈ vs := by decide) (hj : j ∈ vs := by decide) : TgOk b vs K (gTup K 2 (gCons (gName i) (gCons (gName j) gNil))) (gT [gN i, gN j]) := ⟨fun C σ δ H U v d k e1 en hd h => by
  obtain ⟨ds, h1, h2, h3⟩ := h
  cases h1
  obtain ⟨a0, xs0, rfl, ht, ha⟩ := di_tup hd
  · cases ha with
    | nil => cases h2
    | cons a1 ha =>
      cases ha with
      | nil => cases h2
      | cons a2 ha =>
        cases ha with
        | cons _ _ => cases h2
        | nil =>
          refine ⟨_, _, rfl, e1 ▸ sameT en.wd.sub ht, rfl, _, _, rfl, _, _, rfl, rfl, rfl, ?_, ?_⟩
          · rw [wipe_set hj, wipe_set hi, wipe_wipe fun _ h => h]
          · exact ⟨_, h3, (en.set (r := .pub _) a1 fun _ _ z => nomatch z).set (r := .pub _) a2 fun _ _ z => nomatch z⟩⟩
theorem tg_three {b : Bool} {vs : List Nat} {K : PySem.W.Frag} {i j l : Nat} (hi : i ∈ vs := by decide) (hj : j ∈ vs := by decide) (hl : l ∈ vs := by decide) : TgOk b vs K (gTup K 3 (gCons (gName i) (gCons (gName j) (gCons (gName l) gNil)))) (gT [gN i, gN j, gN l]) := ⟨fun C σ δ H U v d k e1 en hd h => by
  obtain ⟨ds, h1, h2, h3⟩ := h
  cases h1
  obtain ⟨a0, xs0, rfl, ht, ha⟩ := di_tup hd
  · cases ha with
    | nil => cases h2
    | cons a1 ha =>
      cases ha with
      | nil => cases h2
      | cons a2 ha =>
        cases ha with
        | nil => cases h2
        | cons a3 ha =>
          cases ha with
          | cons _ _ => cases h2
          | nil =>
            refine ⟨_, _, rfl, e1 ▸ sameT en.wd.sub ht, rfl, _, _, rfl, _, _, rfl, _, _, rfl, rfl, rfl, ?_, ?_⟩
            · rw [wipe_set hl, wipe_set hj, wipe_set hi, wipe_wipe fun _ h => h]
            · exact ⟨_, h3, ((en.set (r := .pub _) a1 fun _ _ z => nomatch z).set (r := .pub _) a2 fun _ _ z => nomatch z).set (r := .pub _) a3 fun _ _ z => nomatch z⟩⟩
theorem lc_ok {b : Bool} {it : DI} {g : TG} {dg : DG} {tt : DT} {te : DE} {vs : List Nat} (hg : TgOk b vs X.K g dg) (hgm : ∀ v σ H (Q Q' : L2.St → Hp → Prop), g v σ H Q → (∀ σ H, Q σ H → Q' σ H) → g v σ H Q') {σ : L2.St} {H : Hp} {Q : VK} (hT : F.triv) (h : lE F X.K (xLc vs it dg tt te) σ H Q) : tLc (lI b F X.K it) g (lT F X.K tt) (lE F X.K te) vs σ H Q := by
  obtain ⟨C, δ, U, k, e1, e2, en, w, q⟩ := h
  refine ⟨C, δ, U, _, e1, e2, en, w, fun xs δ1 hk J H1 U1 s1 en1 hw => ?_⟩
  obtain ⟨hlen, hk⟩ := hk
  intro D hD
  obtain ⟨G, Y, wk, hG, hY⟩ := (hw C e1).ex
  have nR : ¬ Rm C.R D := fun z => en1.wd.live z hD
  refine lc_it wk (fun i H => ∃ U ws acc, ExtK C H1 U1 H U ∧ H D = some (.lst ws) ∧ U D = none ∧ DdAll C.K U ws acc ∧ acc.length ≤ i ∧ lcGo dg tt te (wip (hid δ1) vs) (xs.drop i) acc fun acc => k (.own acc) δ1) ?_ ?_ ?_ ?_
  · exact ⟨U1, [], [], Ext.priv en1.wd hD, upd_same, en1.wd.noneU hD, .nil, Nat.le_refl _, hk⟩
  · rintro i H hi ⟨U, ws, acc, x, _⟩
    exact hG H U x.us x.sub
  · rintro i v H H2 hi ⟨U, ws, acc, x, hd, ud, da, la, hgo⟩ y
    obtain ⟨U2, d, x2, hxd, hv⟩ := hY i H U v H2 (en1.wd.ext x.toExt) x.us hi y
    have w2 := (en1.wd.ext x.toExt).ext x2.toExt
    have hd2 : H2 D = some (.lst ws) := x2.same D _ nR hd
    have e3 : xs.drop i = d :: xs.drop (i + 1) := by
      obtain ⟨h1, h2⟩ := List.getElem?_eq_some_iff.mp hxd
      rw [List.drop_eq_getElem_cons h1, h2]
    rw [e3] at hgo
    have en2 := en1.block (x.us.trans x2.us) w2.self vs
    have nonP : ∀ {U3 : Hp} {H3 : Hp}, Wd { C with H0 := H2, U0 := U2 } H3 U3 → U3 D = none := fun {U3 H3} w3 => by
      cases z : U3 D with
      | none => rfl
      | some o =>
        rcases w3.new D o z with y | y
        · have y : U2 D = some o := y
          rcases x2.new D o y with y | y
          · rw [ud] at y; cases y
          · rw [hd] at y; cases y
        · have y : H2 D = none := y
          rw [hd2] at y; cases y
    have back : ∀ {U3 H3 : Hp}, Wd { C with H0 := H2, U0 := U2 } H3 U3 → ExtK C H1 U1 H3 U3 := fun {U3 H3} w3 => by
      have x12 := x.trans en1.wd x2
      refine ⟨⟨fun a o hr e => w3.old a o hr (x12.same a o hr e), x12.us.trans w3.vold, w3.sub, fun a o e => ?_, w3.rok⟩, fun _ _ _ _ _ => C.F.leT (e2 ▸ hT) _ _ _ _⟩
      rcases w3.new a o e with y | y
      · exact x12.new a o y
      · refine .inr ?_
        have y : H2 a = none := y
        cases z : H1 a with
        | none => rfl
        | some o2 =>
          rcases Classical.em (Rm C.R a) with hr | hr
          · exact absurd y (w2.live hr)
          · rw [x12.same a o2 hr z] at y; cases y
    refine hgm _ _ _ _ _ (hg.run { C with H0 := H2, U0 := U2 } σ _ H2 U2 v d _ e1 en2 hv hgo) fun σ3 H3 ⟨hH, hw3, δ3, hk3, en3⟩ => ?_
    subst hH
    refine ⟨hw3, { C with H0 := H3, U0 := U2 }, δ3, U2, _, e1, e2, en3, hk3, fun b δ4 hk4 H4 U4 s4 en4 => ?_⟩
    obtain ⟨rfl, hk4⟩ := hk4
    cases b with
    | true =>
      refine iteT ⟨{ C with H0 := H3, U0 := U2 }, δ4, U4, _, e1, e2, en4, (by simpa using hk4), fun r δ5 hk5 y H5 U5 s5 en5 o5 => ?_⟩
      obtain ⟨rfl, d5, hr5, hk5⟩ := hk5
      obtain ⟨U6, s6, en6, ho6⟩ := hold_of en5 o5
      have hd6 : H5 D = some (.lst ws) := en6.wd.old D _ nR hd2
      have dd : Dd C.K U6 y d5 := by cases r <;> cases hr5 <;> exact ho6
      refine ⟨ws, hd6, by rw [da.len]; exact line10' (by omega), ?_⟩
      have x6 := back en6.wd
      have ud6 := nonP en6.wd
      · refine ⟨U6, ws ++ [y], acc ++ [d5], ?_, upd_same, ud6, (da.same (x2.us.trans (s4.trans (s5.trans s6)))).app (.cons dd .nil), by simp; omega, hk5⟩
        refine ⟨⟨fun a o hr e => ?_, x6.us, fun a o e => ?_, x6.new, fun dd cc e => ?_⟩, fun _ _ _ _ _ => C.F.leT (e2 ▸ hT) _ _ _ _⟩
        · rw [upd_ne (ne_of_none e hD)]; exact x6.same a o hr e
        · have : a ≠ D := fun z => by subst z; rw [ud6] at e; cases e
          rw [upd_ne this]; exact x6.sub a o e
        · exact C.F.frame (x6.rok dd cc e) (upd_ne fun z => nR ⟨dd, cc, e, .inl z.symm⟩) (fun b hb => upd_ne fun z => nR ⟨dd, cc, e, .inr (z ▸ hb)⟩)
    | false =>
      refine iteF ⟨U4, ws, acc, back en4.wd, en4.wd.old D _ nR hd2, nonP en4.wd, da.same (x2.us.trans s4), by omega, by simpa using hk4⟩
  · rintro H ⟨U, ws, acc, x, hd, ud, da, la, hgo⟩
    rw [List.drop_length] at hgo
    refine q _ δ1 hgo _ H U (s1.trans x.us) (en1.ext x) (rs_new en1 x ⟨D, rfl, hD, ud, ws, hd, da⟩)
theorem gm_name {i : Nat} : ∀ v σ H (Q Q' : L2.St → Hp → Prop), gName i v σ H Q → (∀ σ H, Q σ H → Q' σ H) → gName i v σ H Q' := fun _ _ _ _ _ h i => i _ _ h
theorem gm_two {K : PySem.W.Frag} {i j : Nat} : ∀ v σ H (Q Q' : L2.St → Hp → Prop), gTup K 2 (gCons (gName i) (gCons (gName j) gNil)) v σ H Q → (∀ σ H, Q σ H → Q' σ H) → gTup K 2 (gCons (gName i) (gCons (gName j) gNil)) v σ H Q' := fun _ _ _ _ _ h im => by
  obtain ⟨a, xs, h1, h2, h3, v1, r1, h4, v2, r2, h5, h6, h7⟩ := h
  exact ⟨a, xs, h1, h2, h3, v1, r1, h4, v2, r2, h5, h6, im _ _ h7⟩
theorem gm_three {K : PySem.W.Frag} {i j l : Nat} : ∀ v σ H (Q Q' : L2.St → Hp → Prop), gTup K 3 (gCons (gName i) (gCons (gName j) (gCons (gName l) gNil))) v σ H Q → (∀ σ H, Q σ H → Q' σ H) → gTup K 3 (gCons (gName i) (gCons (gName j) (gCons (gName l) gNil))) v σ H Q' := fun _ _ _ _ _ h im => by
  obtain ⟨a, xs, h1, h2, h3, v1, r1, h4, v2, r2, h5, v3, r3, h6, h7, h8⟩ := h
  exact ⟨a, xs, h1, h2, h3, v1, r1, h4, v2, r2, h5, v3, r3, h6, h7, im _ _ h8⟩
theorem dts_nil : PTs X [] (lT F X.K tYes') := ⟨fun pins s σ H Q I ⟨C, δ, U, k, e1, e2, en, w, q⟩ => pts_nil.run pins s σ H Q I (q true δ w H U (Same.refl _) en)⟩
theorem dts_one {c : Expr} {t : DT} (h : PT X c (lT F X.K t)) : PTs X [c] (lT F X.K t) := pts_one h
section
variable {wk : Bool} {elt iter : Expr} {ifs : List Expr} {scope : Scope} {own : List (Str × Nat)} {it : DI} {g : TG} {dg : DG} {tt : DT} {te : DE}
theorem d_lc (hc : X.calm = true) (hN : X.N.Nodup) (hi : PI X tg iter (lI wk F X.K it)) (ok : BlkOk X.N X.env.scope scope own) (tok : TgOk wk (own.map (·.2)) X.K g dg) (hgm : ∀ v σ H (Q Q' : L2.St → Hp → Prop), g v σ H Q → (∀ σ H, Q σ H → Q' σ H) → g v σ H Q')
    (hg : ∀ (s : Shared) (H : Hp) (C : Addr) (cl : List (Str × Addr)) (fp : List Addr), PG (X.blk s H scope (compEnvC scope cl C X.env) fp) tg g) (ht : ∀ (s : Shared) (H : Hp) (C : Addr) (cl : List (Str × Addr)) (fp : List Addr), PTs (X.blk s H scope (compEnvC scope cl C X.env) fp) ifs (lT F X.K tt))
    (he : ∀ (s : Shared) (H : Hp) (C : Addr) (cl : List (Str × Addr)) (fp : List Addr), PE (X.blk s H scope (compEnvC scope cl C X.env) fp) elt (lE F X.K te)) (hs : ∀ x, foldedSetIterable iter X.env x = pure x := by intro _; rfl) (hT : F.triv := by exact trivial) :
    PE X (.ListComp elt [⟨tg, iter, ifs, 0⟩] scope pos) (lE F X.K (xLc (own.map (·.2)) it dg tt te)) := PE.imp (pe_lc hc hN hi ok hg ht he hs) fun σ H Q h => lc_ok tok hgm hT h
theorem ds_setLc {i : Nat} {y : Str} {py spos : Pos} (hc : X.calm = true) (hN : X.N.Nodup) (hy : X.N[i]? = some y) (hyl : X.env.scope.names.lookup y = some .local)
    (hsw : swapsWith (.ListComp elt [⟨tg, iter, ifs, 0⟩] scope pos) (some (.Name y py)) spos.line X.env = pure true) (hi : PI X tg iter (lI wk F X.K it)) (ok : BlkOk X.N X.env.scope scope own) (tok : TgOk wk (own.map (·.2)) X.K g dg) (hgm : ∀ v σ H (Q Q' : L2.St → Hp → Prop), g v σ H Q → (∀ σ H, Q σ H → Q' σ H) → g v σ H Q')
    (hg : ∀ (s : Shared) (H : Hp) (C : Addr) (cl : List (Str × Addr)) (fp : List Addr), PG (X.blk s H scope (compEnvC scope cl C X.env) fp) tg g) (ht : ∀ (s : Shared) (H : Hp) (C : Addr) (cl : List (Str × Addr)) (fp : List Addr), PTs (X.blk s H scope (compEnvC scope cl C X.env) fp) ifs (lT F X.K tt))
    (he : ∀ (s : Shared) (H : Hp) (C : Addr) (cl : List (Str × Addr)) (fp : List Addr), PE (X.blk s H scope (compEnvC scope cl C X.env) fp) elt (lE F X.K te)) (hs : ∀ x, foldedSetIterable iter X.env x = pure x := by intro _; rfl) (is : List Nat) (hT : F.triv := by exact trivial) :
    PS X (.Assign [.Name y py] (.ListComp elt [⟨tg, iter, ifs, 0⟩] scope pos) spos) (lS F X.K (sAsg (xPs is (xLc (own.map (·.2)) it dg tt te)) (gN i))) := PS.imp (ps_setLc hc hN hy hyl hsw hi ok hg ht he hs) fun D σ H ⟨C, δ, U, DD, e1, e2, en, w, okE⟩ => by
  obtain ⟨U1, s1, en1⟩ := en.pbs is
  have w : xLc (own.map (·.2)) it dg tt te (pbs is δ) (fun r δ1 => gN i r δ1 DD.nx) := w
  refine lc_ok tok hgm hT ⟨C, _, U1, _, e1, e2, en1, w, fun r δ' hk v H' U' s en' o => ?_⟩
  obtain ⟨δ2, U2, k2, s2, en2⟩ := gn_ok en' o hk
  exact okE.nx δ2 k2 _ _ U2 en2
end
/-! a def -/
theorem en_start {C : Ct} {H U : Hp} {N : List Str} (w : Wd C H U) : ∀ {vs : List V} {as : List Sl}, vs.length ≤ N.length → Paired (ArOk C U) vs as → En C (L2.start N vs) (as ++ List.replicate (N.length - as.length) .emp) H U := by
  intro vs as hle ar
  have hl : vs.length = as.length := Paired.length ar
  have hget : ∀ {vs : List V} {as : List Sl} (i : Nat) (s : Sl), Paired (ArOk C U) vs as → as[i]? = some s → ∃ v, vs[i]? = some v ∧ ArOk C U v s := by
    intro vs as i s ar
    induction ar generalizing i with
    | nil => intro e; simp at e
    | cons h t ih =>
      intro e
      cases i with
      | zero => cases e; exact ⟨_, rfl, h⟩
      | succ i => simpa using ih i (by simpa using e)
  have noOwn : ∀ (i : Nat) ds, (as ++ List.replicate (N.length - as.length) Sl.emp)[i]? ≠ some (.own ds) := fun i ds e => by
    rcases Nat.lt_or_ge i as.length with hi | hi
    · rw [List.getElem?_append_left hi] at e
      obtain ⟨v, _, h⟩ := hget i _ ar e
      exact h.elim
    · rw [List.getElem?_append_right hi] at e
      have := List.mem_of_getElem? e
      rw [List.mem_replicate] at this
      cases this.2
  refine ⟨w, by simp [L2.start, hl], fun i s e => ?_, fun i j ds es a h1 _ _ _ => absurd h1 (noOwn i ds)⟩
  unfold L2.start
  rcases Nat.lt_or_ge i as.length with hi | hi
  · rw [List.getElem?_append_left hi] at e
    obtain ⟨v, h1, h2⟩ := hget i _ ar e
    refine ⟨some v, ?_, ?_⟩
    · rw [List.getElem?_append_left (by simp [hl]; exact hi), List.getElem?_map, h1]; rfl
    · cases s <;> first | exact h2 | exact h2.elim
  · rw [List.getElem?_append_right hi] at e
    have hm := List.mem_of_getElem? e
    rw [List.mem_replicate] at hm
    obtain ⟨h0, rfl⟩ := hm
    refine ⟨none, ?_, trivial⟩
    rw [List.getElem?_append_right (by simp [hl]; exact hi)]
    rw [List.length_map, hl]
    have : i - as.length < N.length - as.length := by
      rcases Nat.lt_or_ge (i - as.length) (N.length - as.length) with q | q
      · exact q
      · rw [List.getElem?_eq_none (by simp; omega)] at e; cases e
    simp [this]
section
variable {P : Program} {w : World} {K : PySem.W.Frag} {mg : Str → Option Value} {base : Heap} {N ps : List Str} {k : Nat} {x qual : Str} {st : Stmt} {f : Addr} {fd : FuncData}
theorem okD (Fn : Fun K x qual st f fd) (S : FnScope N ps (defScope st)) {wd : DS} {df : DF} (hl : ∀ as k, df as k → as.length = ps.length) (hN : ps.length ≤ N.length)
    (hb : ∀ (cdv : Value) (A : Around) (outer : List Env) (s : Shared) (H : Hp) (E : XK), A.guards = some [] → Room k (A.deeper (envOfC qual (defScope st) s.heap.objs.size f cdv)) → PSs (cxOf CX0 P w K mg base N qual (defScope st) f cdv A outer s H E).nox (defBody st) (lS F K wd))
    (hd : ∀ as k, df as k → wd { nx := fun _ => k (.pub .none), rt := k } (as ++ List.replicate (N.length - as.length) .emp)) : FnOkG P w K mg base CX0 (k + 1) f fd ps (spD F K df) := by
  refine Fun.okG Fn S (fun vs H Q E h => ?_) fun cdv A outer s H vs Q E hgd hr h => ⟨_, hb cdv A outer s H E hgd hr, ?_⟩
  · obtain ⟨C, U, as, k, e1, e2, e3, e4, wd, ar, hf, q⟩ := h
    rw [Paired.length ar]; exact hl as k hf
  · obtain ⟨C, U, as, k, e1, e2, e3, e4, wd, ar, hf, q⟩ := h
    have hx : ∀ {H' U' : Hp}, Wd C H' U' → Ext C H U H' U' := fun w' => ⟨fun a o hr e => w'.old a o hr (e3 ▸ e), e4 ▸ w'.vold, w'.sub, fun a o e => (w'.new a o e).imp (fun z => e4 ▸ z) fun z => e3 ▸ z, w'.rok⟩
    refine ⟨C, _, U, _, e1, e2, en_start wd (by rw [Paired.length ar, hl as k hf]; exact hN) ar, hd as k hf, fun δ h σ H' U' en => ?_, fun δ h => h.elim, fun δ h => h.elim, fun r h v H' U' w' o => ?_⟩
    · exact q _ h _ H' U' (hx en.wd) (show Dd _ _ _ _ from .non)
    · refine q r h v H' U' (hx w') ?_
      cases r with
      | pub d => exact o
      | own ds => obtain ⟨a, e, h0, hu, h1⟩ := o; exact ⟨a, e, e3 ▸ h0, hu, h1⟩
      | emp => exact o.elim
      | var i => exact o.elim
      | sup => exact o.elim
      | supn n => exact o.elim
      | dto n => exact o.elim
end
end
end DX

namespace DX
open PySem PySem.Spec L2 KX
open PyProof.Rows hiding St
section
variable {C : Ct} {H U : Hp} {x v : V} {i : Int} {ds : List PyData} {d : PyData} {k : Sl → Prop} {Q : VK} {vs : List V} {p : Addr}
theorem Rdb.int (h : Rdb C H U x (.int i)) : x = .int i := by
  rcases h with h | ⟨_, _, _, _, h, _⟩
  · cases h; rfl
  · cases h
theorem Rdb.bool {b : Bool} (h : Rdb C H U x (.bool b)) : x = .bl b := by
  rcases h with h | ⟨_, _, _, _, h, _⟩
  · cases h; rfl
  · cases h
theorem Rdb.str {b : Str} (h : Rdb C H U x (.str b)) : x = .str b := by
  rcases h with h | ⟨_, _, _, _, h, _⟩
  · cases h; rfl
  · cases h
theorem Rdb.none (h : Rdb C H U x .none) : x = .non := by
  rcases h with h | ⟨_, _, _, _, h, _⟩
  · cases h; rfl
  · cases h
theorem Rdb.list (w : Wd C H U) (h : Rdb C H U x (.list ds)) : ∃ a vs, x = .ref a ∧ H a = some (.lst vs) ∧ DdAll C.K U vs ds := by
  rcases h with h | ⟨a, vs, es, e, h, h1, h2⟩
  · cases h with
    | lst h1 h2 => exact ⟨_, _, rfl, w.sub _ _ h1, h2⟩
  · cases h; exact ⟨a, vs, e, h1, h2⟩
theorem Rdb.tup (w : Wd C H U) (h : Rdb C H U x (.tuple ds)) : ∃ a vs, x = .ref a ∧ SqT C.K H a vs ∧ DdAll C.K U vs ds ∧ Dd C.K U x (.tuple ds) := by
  rcases h with h | ⟨a, vs, es, e, h, h1, h2⟩
  · cases h with
    | tup h1 h2 => exact ⟨_, _, rfl, (h1.same w.sub).sq, h2, .tup h1 h2⟩
  · cases h
theorem Rdb.ddH (w : Wd C H U) (h : Rdb C H U x d) : Dd C.K H x d := by
  rcases h with h | ⟨a, vs, es, rfl, rfl, h1, h2⟩
  · exact Dd.same w.sub h
  · exact .lst h1 (h2.same w.sub)
theorem fin_pub (w : Wd C H U) (hd : Dd C.K U v d) (hk : k (.pub d)) (q : ∀ s, k s → ∀ v H' U', ExtK C H U H' U' → NewOk C H H' U' v s → Q v H') : Q v H := q _ hk v H U (Ext.refl w) hd
theorem fin_own (w : Wd C H U) (hp : H p = none) (da : DdAll C.K U vs ds) (hk : k (.own ds)) (q : ∀ s, k s → ∀ v H' U', ExtK C H U H' U' → NewOk C H H' U' v s → Q v H') : Q (.ref p) (upd H p (.lst vs)) :=
  q _ hk _ _ U (Ext.priv w hp) ⟨p, rfl, hp, w.noneU hp, vs, upd_same, da⟩
theorem fin_tup {o : Obj} (w : Wd C H U) (hp : H p = none) (ho : BareO o) (da : DdAll C.K U vs ds) (hk : k (.pub (.tuple ds))) (q : ∀ s, k s → ∀ v H' U', ExtK C H U H' U' → NewOk C H H' U' v s → Q v H') : Q (.ref p) (upd H p (.frz o (.tup vs))) := by
  have x : ExtK C H U (upd H p (.frz o (.tup vs))) (upd U p (.frz o (.tup vs))) := Ext.pub w hp
  exact q _ hk _ _ _ x (show Dd _ _ _ _ from .tup (BqT.of ho) (da.same x.us))
end
/-! operators -/
def oAdd : O2
  | .int a, .int b, k => k (.pub (.int (a + b)))
  | .str a, .str b, k => a.length + b.length ≤ sizeLine ∧ k (.pub (.str (a ++ b)))
  | .list a, .list b, k => a.length + b.length ≤ 10000 ∧ k (.own (a ++ b))
  | .tuple a, .tuple b, k => a.length + b.length ≤ 10000 ∧ k (.pub (.tuple (a ++ b)))
  | _, _, _ => False
def oSub : O2
  | .int a, .int b, k => k (.pub (.int (a - b)))
  | _, _, _ => False
def oMul : O2
  | .int a, .int b, k => CMul a b ∧ k (.pub (.int (a * b)))
  | .list a, .int n, k => -(2 ^ 63) ≤ n ∧ n < 2 ^ 63 ∧ a.length * n.toNat ≤ 10000 ∧ k (.own (List.replicate n.toNat a).flatten)
  | _, _, _ => False
def oDiv : O2
  | .int a, .int b, k => CDiv a b ∧ k (.pub (.int (a / b)))
  | _, _, _ => False
def oMod : O2
  | .int a, .int b, k => 0 < b ∧ k (.pub (.int (a % b)))
  | _, _, _ => False
def oPow : O2
  | .int a, .int b, k => CPow a b ∧ k (.pub (.int (a ^ b.toNat)))
  | _, _, _ => False
def oLt : O2
  | .int a, .int b, k => k (.pub (.bool (decide (a < b))))
  | _, _, _ => False
def oLe : O2
  | .int a, .int b, k => k (.pub (.bool (decide (a ≤ b))))
  | _, _, _ => False
def oGt : O2
  | .int a, .int b, k => k (.pub (.bool (decide (b < a))))
  | _, _, _ => False
def oGe : O2
  | .int a, .int b, k => k (.pub (.bool (decide (b ≤ a))))
  | _, _, _ => False
/-- data that == takes -/
def eqOk (d : PyData) : Prop := d.hasDict = false ∧ SeqAt.shaped d = true
def oEq : O2
  | .str x, .str y, k => k (.pub (.bool (x == y)))
  | a, b, k => eqOk a ∧ eqOk b ∧ k (.pub (.bool (PyData.eqv a b)))
def oNe : O2
  | .str x, .str y, k => k (.pub (.bool (!(x == y))))
  | a, b, k => eqOk a ∧ eqOk b ∧ k (.pub (.bool (!PyData.eqv a b)))
@[simp] def flatD : PyData → Bool
  | .none => true
  | .bool _ => true
  | .int _ => true
  | .str _ => true
  | _ => false
def inD (d : PyData) (ds : List PyData) : Bool := ds.any fun e => PyData.eqv e d
def oIn : O2
  | d, .list ds, k => flatD d = true ∧ ds.all flatD = true ∧ k (.pub (.bool (inD d ds)))
  | d, .tuple ds, k => flatD d = true ∧ ds.all flatD = true ∧ k (.pub (.bool (inD d ds)))
  | _, _, _ => False
def oNotIn : O2
  | d, .list ds, k => flatD d = true ∧ ds.all flatD = true ∧ k (.pub (.bool (!inD d ds)))
  | d, .tuple ds, k => flatD d = true ∧ ds.all flatD = true ∧ k (.pub (.bool (!inD d ds)))
  | _, _, _ => False
@[simp] def isN : PyData → Bool
  | .none => true
  | _ => false
def oIs : O2
  | d, .none, k => k (.pub (.bool (isN d)))
  | _, _, _ => False
def oIsNot : O2
  | d, .none, k => k (.pub (.bool (!isN d)))
  | _, _, _ => False
section
variable {X : Cx} {F : Fam}
theorem ops_int {fn : Value → Value → Sem Value} {f : O2} {g : Int → Int → V} {gd : Int → Int → PyData} {c : Int → Int → Prop} (ho : OpR X fn (rI c g)) (hg : ∀ i j U, Dd X.K U (g i j) (gd i j)) (hf : ∀ d e k, f d e k → ∃ i j, d = .int i ∧ e = .int j ∧ c i j ∧ k (.pub (gd i j))) : OpS F X fn f :=
  ⟨_, ho, fun C H U x y d e k Q e1 e2 w rx ry h q => by
    obtain ⟨i, j, rfl, rfl, hc, hk⟩ := hf d e k h
    exact ⟨i, j, rx.int, ry.int, hc, fin_pub w (e1 ▸ hg i j U) hk q⟩⟩
theorem ops_int0 {fn : Value → Value → Sem Value} {f : O2} {g : Int → Int → V} {gd : Int → Int → PyData} (ho : OpR X fn (rI0 g)) (hg : ∀ i j U, Dd X.K U (g i j) (gd i j)) (hf : ∀ d e k, f d e k → ∃ i j, d = .int i ∧ e = .int j ∧ k (.pub (gd i j))) : OpS F X fn f :=
  ⟨_, ho, fun C H U x y d e k Q e1 e2 w rx ry h q => by
    obtain ⟨i, j, rfl, rfl, hk⟩ := hf d e k h
    exact ⟨i, j, rx.int, ry.int, fin_pub w (e1 ▸ hg i j U) hk q⟩⟩
theorem s_sub : OpS F X (binaryOp .Sub) oSub := ops_int0 (gd := fun i j => .int (i - j)) op_sub (fun i j U => .int _) fun d e k h => by
  cases d <;> cases e <;> simp only [oSub] at h; exact ⟨_, _, rfl, rfl, h⟩
theorem s_div : OpS F X (binaryOp .FloorDiv) oDiv := ops_int (gd := fun i j => .int (i / j)) op_fdiv (fun i j U => .int _) fun d e k h => by
  cases d <;> cases e <;> simp only [oDiv] at h; exact ⟨_, _, rfl, rfl, h⟩
theorem s_mod : OpS F X (binaryOp .Mod) oMod := ops_int (gd := fun i j => .int (i % j)) op_mod (fun i j U => .int _) fun d e k h => by
  cases d <;> cases e <;> simp only [oMod] at h; exact ⟨_, _, rfl, rfl, h⟩
theorem s_pow : OpS F X (binaryOp .Pow) oPow := ops_int (gd := fun i j => .int (i ^ j.toNat)) op_pow (fun i j U => .int _) fun d e k h => by
  cases d <;> cases e <;> simp only [oPow] at h; exact ⟨_, _, rfl, rfl, h⟩
theorem s_lt : OpS F X (compareOp .Lt) oLt := ops_int0 (gd := fun i j => .bool (decide (i < j))) op_lt (fun i j U => .bl _) fun d e k h => by
  cases d <;> cases e <;> simp only [oLt] at h; exact ⟨_, _, rfl, rfl, h⟩
theorem s_le : OpS F X (compareOp .LtE) oLe := ops_int0 (gd := fun i j => .bool (decide (i ≤ j))) op_le (fun i j U => .bl _) fun d e k h => by
  cases d <;> cases e <;> simp only [oLe] at h; exact ⟨_, _, rfl, rfl, h⟩
theorem s_gt : OpS F X (compareOp .Gt) oGt := ops_int0 (gd := fun i j => .bool (decide (j < i))) op_gt (fun i j U => .bl _) fun d e k h => by
  cases d <;> cases e <;> simp only [oGt] at h; exact ⟨_, _, rfl, rfl, h⟩
theorem s_ge : OpS F X (compareOp .GtE) oGe := ops_int0 (gd := fun i j => .bool (decide (j ≤ i))) op_ge (fun i j U => .bl _) fun d e k h => by
  cases d <;> cases e <;> simp only [oGe] at h; exact ⟨_, _, rfl, rfl, h⟩
theorem s_add : OpS F X (binaryOp .Add) oAdd := ⟨_, op_add.or (op_add_str.or (op_cat.or op_catB)), fun C H U x y d e k Q e1 e2 w rx ry h q => by
  cases d with
  | int a => cases e with
    | int b => exact .inl ⟨a, b, rx.int, ry.int, fin_pub w (.int _) h q⟩
    | _ => exact False.elim h
  | str a => cases e with
    | str b => exact .inr (.inl ⟨a, b, rx.str, ry.str, h.1, fin_pub w (.str _) h.2 q⟩)
    | _ => exact False.elim h
  | list a => cases e with
    | list b =>
      obtain ⟨a1, vs, rfl, h1, h2⟩ := rx.list w
      obtain ⟨a2, us, rfl, h3, h4⟩ := ry.list w
      exact .inr (.inr (.inl ⟨a1, a2, vs, us, rfl, rfl, h1, h3, by rw [h2.len, h4.len]; exact line10 h.1, fun p hp => fin_own w hp (h2.app h4) h.2 q⟩))
    | _ => exact False.elim h
  | tuple a => cases e with
    | tuple b =>
      obtain ⟨a1, vs, rfl, h1, h2, h5⟩ := rx.tup w
      obtain ⟨a2, us, rfl, h3, h4, h6⟩ := ry.tup w
      refine .inr (.inr (.inr ⟨a1, a2, vs, us, rfl, rfl, e1 ▸ h1, e1 ▸ h3, by rw [h2.len, h4.len]; exact line10 h.1, fun z => ?_, fun _ z => ?_, fun _ _ p o hp ho => fin_tup w hp ho (h2.app h4) h.2 q⟩))
      · subst z
        cases h2
        exact fin_pub w h6 h.2 q
      · subst z
        cases h4
        exact fin_pub w h5 (by simpa using h.2) q
    | _ => exact False.elim h
  | _ => exact False.elim h⟩
theorem DdAll.rep {K : PySem.W.Frag} {U : Hp} {vs : List V} {ds : List PyData} (h : DdAll K U vs ds) : ∀ n : Nat, DdAll K U (List.replicate n vs).flatten (List.replicate n ds).flatten
  | 0 => .nil
  | n + 1 => by rw [List.replicate_succ, List.replicate_succ, List.flatten_cons, List.flatten_cons]; exact h.app (DdAll.rep h n)
theorem s_mul : OpS F X (binaryOp .Mult) oMul := ⟨_, op_mul.or op_rep, fun C H U x y d e k Q e1 e2 w rx ry h q => by
  cases d with
  | int a => cases e with
    | int b => exact .inl ⟨a, b, rx.int, ry.int, h.1, fin_pub w (.int _) h.2 q⟩
    | _ => exact False.elim h
  | list a => cases e with
    | int n =>
      obtain ⟨a1, vs, rfl, h1, h2⟩ := rx.list w
      exact .inr ⟨a1, n, vs, rfl, ry.int, h1, h.1, h.2.1, by rw [h2.len]; exact line10 h.2.2.1, fun p hp => fin_own w hp (h2.rep _) h.2.2.2 q⟩
    | _ => exact False.elim h
  | _ => exact False.elim h⟩
theorem oEq_cases {d e : PyData} {k : Sl → Prop} (h : oEq d e k) : (∃ x y, d = .str x ∧ e = .str y ∧ k (.pub (.bool (x == y)))) ∨ (eqOk d ∧ eqOk e ∧ k (.pub (.bool (PyData.eqv d e)))) := by
  cases d <;> cases e <;> first | exact .inl ⟨_, _, rfl, rfl, h⟩ | exact .inr h
theorem oNe_cases {d e : PyData} {k : Sl → Prop} (h : oNe d e k) : (∃ x y, d = .str x ∧ e = .str y ∧ k (.pub (.bool (!(x == y))))) ∨ (eqOk d ∧ eqOk e ∧ k (.pub (.bool (!PyData.eqv d e)))) := by
  cases d <;> cases e <;> first | exact .inl ⟨_, _, rfl, rfl, h⟩ | exact .inr h
theorem s_eq (hu : X.A.units + 64 < cLine) : OpS F X (compareOp .Eq) oEq := ⟨_, op_eq.or (op_eqD hu), fun C H U x y d e k Q e1 e2 w rx ry h q => by
  rcases oEq_cases h with ⟨a, b, rfl, rfl, h⟩ | h
  · rw [rx.str, ry.str]
    exact .inl ⟨rfl, fin_pub w (by rw [dec_str]; exact .bl _) h q⟩
  · exact .inr ⟨d, e, e1 ▸ (rx.ddH w).dp h.1.1, e1 ▸ (ry.ddH w).dp h.2.1.1, h.1.2, h.2.1.2, fin_pub w (.bl _) h.2.2 q⟩⟩
theorem s_ne (hu : X.A.units + 64 < cLine) : OpS F X (compareOp .NotEq) oNe := ⟨_, op_ne.or (op_neD hu), fun C H U x y d e k Q e1 e2 w rx ry h q => by
  rcases oNe_cases h with ⟨a, b, rfl, rfl, h⟩ | h
  · rw [rx.str, ry.str]
    exact .inl ⟨rfl, fin_pub w (by rw [dec_str]; exact .bl _) h q⟩
  · exact .inr ⟨d, e, e1 ▸ (rx.ddH w).dp h.1.1, e1 ▸ (ry.ddH w).dp h.2.1.1, h.1.2, h.2.1.2, fin_pub w (.bl _) h.2.2 q⟩⟩
theorem flat_v {K : PySem.W.Frag} {U : Hp} {v : V} {d : PyData} (h : Dd K U v d) (f : flatD d = true) : flatV v = true := by
  cases h <;> first | rfl | cases f
theorem eqV_v {K : PySem.W.Frag} {U : Hp} {v u : V} {d e : PyData} (h : Dd K U v d) (g : Dd K U u e) (f : flatD d = true) (f2 : flatD e = true) : eqV v u = PyData.eqv d e := by
  cases h <;> cases g <;> first | rfl | cases f | cases f2 | (simp [eqV, PyData.eqv])
theorem in_v {K : PySem.W.Frag} {U : Hp} {v : V} {d : PyData} (h : Dd K U v d) (f : flatD d = true) : ∀ {vs : List V} {ds : List PyData}, DdAll K U vs ds → ds.all flatD = true → vs.all flatV = true ∧ inV v vs = inD d ds
  | _, _, .nil, _ => ⟨rfl, rfl⟩
  | _, _, .cons h1 h2, g => by
    rw [List.all_cons, Bool.and_eq_true] at g
    obtain ⟨g1, g2⟩ := in_v h f h2 g.2
    refine ⟨by rw [List.all_cons, flat_v h1 g.1, g1]; rfl, ?_⟩
    unfold inV inD at g2 ⊢
    rw [List.any_cons, List.any_cons, g2, eqV_v h1 h g.1 f]
theorem flat_ddU {C : Ct} {H U : Hp} {x : V} {d : PyData} (h : Rdb C H U x d) (f : flatD d = true) : Dd C.K U x d := by
  rcases h with h | ⟨_, _, _, _, rfl, _⟩
  · exact h
  · cases f
theorem s_in : OpS F X (compareOp .In) oIn := ⟨_, op_in_seq, fun C H U x y d e k Q e1 e2 w rx ry h q => by
  cases e with
  | list ds =>
    obtain ⟨a1, vs, rfl, h1, h2⟩ := ry.list w
    have dx := flat_ddU rx h.1
    obtain ⟨g1, g2⟩ := in_v dx h.1 h2 h.2.1
    exact ⟨a1, vs, rfl, .inl (SqL.of h1), flat_v dx h.1, g1, fin_pub w (by rw [g2]; exact .bl _) h.2.2 q⟩
  | tuple ds =>
    obtain ⟨a1, vs, rfl, h1, h2, _⟩ := ry.tup w
    have dx := flat_ddU rx h.1
    obtain ⟨g1, g2⟩ := in_v dx h.1 h2 h.2.1
    exact ⟨a1, vs, rfl, .inr (e1 ▸ h1), flat_v dx h.1, g1, fin_pub w (by rw [g2]; exact .bl _) h.2.2 q⟩
  | _ => exact False.elim h⟩
theorem s_notin : OpS F X (compareOp .NotIn) oNotIn := ⟨_, op_notIn_seq, fun C H U x y d e k Q e1 e2 w rx ry h q => by
  cases e with
  | list ds =>
    obtain ⟨a1, vs, rfl, h1, h2⟩ := ry.list w
    have dx := flat_ddU rx h.1
    obtain ⟨g1, g2⟩ := in_v dx h.1 h2 h.2.1
    exact ⟨a1, vs, rfl, .inl (SqL.of h1), flat_v dx h.1, g1, fin_pub w (by rw [g2]; exact .bl _) h.2.2 q⟩
  | tuple ds =>
    obtain ⟨a1, vs, rfl, h1, h2, _⟩ := ry.tup w
    have dx := flat_ddU rx h.1
    obtain ⟨g1, g2⟩ := in_v dx h.1 h2 h.2.1
    exact ⟨a1, vs, rfl, .inr (e1 ▸ h1), flat_v dx h.1, g1, fin_pub w (by rw [g2]; exact .bl _) h.2.2 q⟩
  | _ => exact False.elim h⟩
theorem isN_v {C : Ct} {H U : Hp} {x : V} {d : PyData} (h : Rdb C H U x d) : decide (x = .non) = isN d := by
  rcases h with h | ⟨a, _, _, rfl, rfl, _⟩
  · cases h <;> simp [isN]
  · simp [isN]
theorem s_is : OpS F X (compareOp .Is) oIs := ⟨_, op_isN, fun C H U x y d e k Q e1 e2 w rx ry h q => by
  cases e with
  | none => exact ⟨ry.none, fin_pub w (by rw [isN_v rx]; exact .bl _) h q⟩
  | _ => exact False.elim h⟩
theorem s_isnot : OpS F X (compareOp .IsNot) oIsNot := ⟨_, op_notN, fun C H U x y d e k Q e1 e2 w rx ry h q => by
  cases e with
  | none => exact ⟨ry.none, fin_pub w (by rw [isN_v rx]; exact .bl _) h q⟩
  | _ => exact False.elim h⟩
/-! built-ins -/
def fLen : O1
  | .list ds, k => k (.pub (.int (ds.length : Int)))
  | .tuple ds, k => k (.pub (.int (ds.length : Int)))
  | .str s, k => s.length ≤ sizeLine ∧ k (.pub (.int (s.length : Int)))
  | _, _ => False
theorem s_len : CallS F X (.builtin "len") fLen := ⟨_, call_len_seq.or call_len_str, fun C H U x d k Q e1 e2 w rx h q => by
  cases d with
  | list ds => obtain ⟨a, vs, rfl, h1, h2⟩ := rx.list w; exact .inl ⟨a, vs, rfl, .inl (SqL.of h1), fin_pub w (by rw [h2.len]; exact .int _) h q⟩
  | tuple ds => obtain ⟨a, vs, rfl, h1, h2, _⟩ := rx.tup w; exact .inl ⟨a, vs, rfl, .inr (e1 ▸ h1), fin_pub w (by rw [h2.len]; exact .int _) h q⟩
  | str s => exact .inr ⟨s, by rw [rx.str], h.1, fin_pub w (.int _) h.2 q⟩
  | _ => exact False.elim h⟩
def fList : O1
  | .list ds, k => k (.own ds)
  | .tuple ds, k => k (.own ds)
  | _, _ => False
theorem s_list : CallS F X (.type "list") fList := ⟨_, call_list_of, fun C H U x d k Q e1 e2 w rx h q => by
  cases d with
  | list ds => obtain ⟨a, vs, rfl, h1, h2⟩ := rx.list w; exact ⟨a, vs, rfl, .inl (SqL.of h1), fun l hl => fin_own w hl h2 h q⟩
  | tuple ds => obtain ⟨a, vs, rfl, h1, h2, _⟩ := rx.tup w; exact ⟨a, vs, rfl, .inr (e1 ▸ h1), fun l hl => fin_own w hl h2 h q⟩
  | _ => exact False.elim h⟩
def fTuple : O1
  | .list ds, k => k (.pub (.tuple ds))
  | .tuple ds, k => k (.pub (.tuple ds))
  | _, _ => False
theorem s_tuple : CallS F X (.type "tuple") fTuple := ⟨_, call_tupB, fun C H U x d k Q e1 e2 w rx h q => by
  cases d with
  | list ds => obtain ⟨a, vs, rfl, h1, h2⟩ := rx.list w; exact ⟨a, vs, rfl, .inl ⟨SqL.of h1, fun l o hl ho => fin_tup w hl ho h2 h q⟩⟩
  | tuple ds => obtain ⟨a, vs, rfl, h1, h2, h3⟩ := rx.tup w; exact ⟨a, vs, rfl, .inr ⟨e1 ▸ h1, fin_pub w h3 h q⟩⟩
  | _ => exact False.elim h⟩
def fAbs : O1
  | .int i, k => k (.pub (.int (if i < 0 then -i else i)))
  | _, _ => False
theorem s_abs : CallS F X (.builtin "abs") fAbs := ⟨_, call_abs, fun C H U x d k Q e1 e2 w rx h q => by
  cases d with
  | int i => exact ⟨i, by rw [rx.int], fin_pub w (.int _) h q⟩
  | _ => exact False.elim h⟩
def fInt : O1
  | .int i, k => k (.pub (.int i))
  | .bool b, k => k (.pub (.int (if b then 1 else 0)))
  | _, _ => False
theorem s_int : CallS F X (.type "int") fInt := ⟨_, call_int1, fun C H U x d k Q e1 e2 w rx h q => by
  cases d with
  | int i => exact .inl ⟨i, by rw [rx.int], fin_pub w (.int _) h q⟩
  | bool b => exact .inr ⟨b, by rw [rx.bool], fin_pub w (.int _) h q⟩
  | _ => exact False.elim h⟩
def fRepr (d : PyData) (k : Sl → Prop) : Prop := d.showable = true ∧ d.depth ≤ 60 ∧ d.shown.length ≤ sizeLine ∧ k (.pub (.str d.shown))
theorem s_repr (hgd : X.A.guards = some []) (hu : X.A.units + 64 < cLine) : CallS F X (.builtin "repr") fRepr := ⟨_, cr_reprQ hgd hu, fun C H U x d k Q e1 e2 w rx h q =>
  ⟨x, d, rfl, e1 ▸ (rx.ddH w).dq, h.1, h.2.1, h.2.2.1, fin_pub w (.str _) h.2.2.2 q⟩⟩
def fMax2 : O2
  | .int i, .int j, k => k (.pub (.int (max i j)))
  | _, _, _ => False
def fMin2 : O2
  | .int i, .int j, k => k (.pub (.int (min i j)))
  | _, _, _ => False
theorem s_max2 (hc : X.calm = true) : CallS2 F X (.builtin "max") fMax2 := ⟨_, call_max2 hc, fun C H U x y d e k Q e1 e2 w rx ry h q => by
  cases d with
  | int i => cases e with
    | int j =>
      refine ⟨i, j, by rw [rx.int, ry.int], fin_pub w (d := .int (max i j)) ?_ h q⟩
      have : (if j > i then j else i) = max i j := by split <;> omega
      rw [this]; exact .int _
    | _ => exact False.elim h
  | _ => exact False.elim h⟩
theorem s_min2 (hc : X.calm = true) : CallS2 F X (.builtin "min") fMin2 := ⟨_, call_min2 hc, fun C H U x y d e k Q e1 e2 w rx ry h q => by
  cases d with
  | int i => cases e with
    | int j =>
      refine ⟨i, j, by rw [rx.int, ry.int], fin_pub w (d := .int (min i j)) ?_ h q⟩
      have : (if j < i then j else i) = min i j := by split <;> omega
      rw [this]; exact .int _
    | _ => exact False.elim h
  | _ => exact False.elim h⟩
/-! subscripts -/
def IxS (F : Fam) (X : Cx) (f : O2) : Prop := ∃ r : R2, IxR X r ∧ ∀ (C : Ct) (H U : Hp) (x y : V) (d e : PyData) (k : Sl → Prop) (Q : VK), C.K = X.K → C.F = F → Wd C H U → Rdb C H U x d → Rdb C H U y e → f d e k →
  (∀ s, k s → ∀ v H' U', ExtK C H U H' U' → NewOk C H H' U' v s → Q v H') → r x y H Q
def oIx : O2
  | .list ds, .int i, k => ∃ d, atI ds i = some d ∧ k (.pub d)
  | .tuple ds, .int i, k => ∃ d, atI ds i = some d ∧ k (.pub d)
  | .str z, .int i, k => z.length ≤ sizeLine ∧ ∃ c, atI z.cps.toList i = some c ∧ k (.pub (.str ⟨#[c]⟩))
  | _, _, _ => False
theorem at_v {K : PySem.W.Frag} {U : Hp} {vs : List V} {ds : List PyData} {i : Int} {d : PyData} (h : DdAll K U vs ds) (e : atI ds i = some d) : ∃ v, atI vs i = some v ∧ Dd K U v d := by
  unfold atI at e ⊢
  rw [h.len]
  cases q : ixN ds.length i with
  | none => rw [q] at e; cases e
  | some j =>
    rw [q] at e
    exact h.get (by simpa using e)
theorem s_ix : IxS F X oIx := ⟨_, ix_seq, fun C H U x y d e k Q e1 e2 w rx ry h q => by
  cases d with
  | list ds => cases e with
    | int i =>
      obtain ⟨dd, h1, h2⟩ := h
      obtain ⟨a, vs, rfl, g1, g2⟩ := rx.list w
      obtain ⟨v, g3, g4⟩ := at_v g2 h1
      exact .inl ⟨a, vs, i, v, rfl, ry.int, SqL.of g1, g3, fin_pub w g4 h2 q⟩
    | _ => exact False.elim h
  | tuple ds => cases e with
    | int i =>
      obtain ⟨dd, h1, h2⟩ := h
      obtain ⟨a, vs, rfl, g1, g2, _⟩ := rx.tup w
      obtain ⟨v, g3, g4⟩ := at_v g2 h1
      exact .inr (.inl ⟨a, vs, i, v, rfl, ry.int, e1 ▸ g1, g3, fin_pub w g4 h2 q⟩)
    | _ => exact False.elim h
  | str z => cases e with
    | int i =>
      obtain ⟨h0, c, h1, h2⟩ := h
      exact .inr (.inr ⟨z, i, c, rx.str, ry.int, h0, h1, fin_pub w (.str _) h2 q⟩)
    | _ => exact False.elim h
  | _ => exact False.elim h⟩
variable {a b : Expr} {wa wb : DE} {pos : Pos}
theorem d_ix {f : O2} (o : IxS F X f) (ha : PE X a (lE F X.K wa)) (hb : PE X b (lE F X.K wb)) (hs : PlainIx b := by intro _ _; rfl) : PE X (.Subscript a b pos) (lE F X.K (x2 f wa wb)) := by
  obtain ⟨r, h1, h2⟩ := o
  exact PE.imp (pe_ix h1 ha hb hs) fun σ H Q h => two h2 h
/-! slices -/
abbrev DO := DEnv → (Option Int → DEnv → Prop) → Prop
def pN (δ : DEnv) (Q : Option Int → DEnv → Prop) : Prop := Q none δ
def pS (w : DE) (δ : DEnv) (Q : Option Int → DEnv → Prop) : Prop := w δ fun r δ1 => ∃ i, rd δ1 r = some (.int i) ∧ Q (some i) δ1
def lO (F : Fam) (K : PySem.W.Frag) (w : DO) : TO := fun σ H Q => ∃ C δ U k, C.K = K ∧ C.F = F ∧ En C σ δ H U ∧ w δ k ∧ ∀ i δ', k i δ' → ∀ H' U', Same U U' → En C σ δ' H' U' → Q i H'
theorem PO.imp {e : Option Expr} {t t' : TO} (h : PO X e t) (i : ∀ σ H Q, t' σ H Q → t σ H Q) : PO X e t' := by
  obtain ⟨h⟩ := h
  constructor
  intros
  first | exact h _ _ _ _ _ ‹_› (i _ _ _ ‹_›) | exact h _ _ _ _ _ _ ‹_› (i _ _ _ ‹_›)
theorem dp_n : PO X none (lO F X.K pN) := PO.imp po_none fun σ H Q ⟨C, δ, U, k, e1, e2, en, w, q⟩ => q none δ w H U (Same.refl _) en
theorem dp_s (h : PE X a (lE F X.K wa)) : PO X (some a) (lO F X.K (pS wa)) := PO.imp (po_some h) fun σ H Q ⟨C, δ, U, k, e1, e2, en, w, q⟩ => by
  refine ⟨C, δ, U, _, e1, e2, en, w, fun r δ' hk v H' U0 s0 en0 o => ?_⟩
  obtain ⟨U', s1, en', ho⟩ := hold_of en0 o
  obtain ⟨i, hi, hk⟩ := hk
  exact ⟨i, int_of en' ho hi, q _ δ' hk H' U' (s0.trans s1) en'⟩
def cutD (ds : List PyData) (lo hi : Option Int) : List PyData := (ds.drop (HT.sIx ds.length 0 lo)).take (HT.sIx ds.length ds.length hi - HT.sIx ds.length 0 lo)
theorem cut_dd {K : PySem.W.Frag} {U : Hp} {vs : List V} {ds : List PyData} {lo hi : Option Int} (h : DdAll K U vs ds) : DdAll K U (cutV vs lo hi) (cutD ds lo hi) := by
  unfold cutV cutD
  rw [h.len]
  exact (h.drop _).take _
def slD (lo hi : Option Int) : O1
  | .list ds, k => k (.own (cutD ds lo hi))
  | .tuple ds, k => k (.pub (.tuple (cutD ds lo hi)))
  | _, _ => False
def xSl (w : DE) (wl wh : DO) (δ : DEnv) (Q : Sl → DEnv → Prop) : Prop := w δ fun r δ1 => wl δ1 fun lo δ2 => wh δ2 fun hi δ3 => ∃ x, rd δ3 r = some x ∧ slD lo hi x fun s => Q s δ3
theorem whole_cut {α : Type} {n : Nat} {lo hi : Option Int} {ds : List PyData} (hl : ds.length = n) (h : HT.sIx n 0 lo = 0 ∧ HT.sIx n n hi = n) : cutD ds lo hi = ds := by
  unfold cutD; subst hl; rw [h.1, h.2]; simp
theorem d_sl {e : Expr} {lo hi : Option Expr} {wl wh : DO} {p2 : Pos} (he : PE X e (lE F X.K wa)) (hl : PO X lo (lO F X.K wl)) (hu : PO X hi (lO F X.K wh)) : PE X (.Subscript e (.Slice lo hi none p2) pos) (lE F X.K (xSl wa wl wh)) := PE.imp (pe_slice (sl_list.or sl_tupB) he hl hu) fun σ H Q ⟨C, δ, U, k, e1, e2, en, w, q⟩ => by
  refine ⟨C, δ, U, _, e1, e2, en, w, fun r δ' hk v H' U0 s0 en0 o => ?_⟩
  obtain ⟨U', s1, en', ho⟩ := hold_of en0 o
  refine ⟨C, δ', U', _, e1, e2, en', hk, fun l δ2 hk2 H2 U2 s2 en2 => ?_⟩
  refine ⟨C, δ2, U2, _, e1, e2, en2, hk2, fun u δ3 hk3 H3 U3 s3 en3 => ?_⟩
  obtain ⟨x, hx, hs⟩ := hk3
  have rb := rdb_of en3 (ho.mono (s2.trans s3)) hx
  have q' : ∀ s, k s δ3 → ∀ v H' U', ExtK C H3 U3 H' U' → NewOk C H3 H' U' v s → Q v H' := fun s hs v H4 U4 x4 ok => q s δ3 hs v H4 U4 (s0.trans (s1.trans (s2.trans (s3.trans x4.us)))) (en3.ext x4) (rs_new en3 x4 ok)
  cases x with
  | list ds =>
    obtain ⟨a, vs, rfl, g1, g2⟩ := rb.list en3.wd
    exact .inl ⟨a, vs, rfl, SqL.of g1, fun p hp => fin_own (k := fun s => k s δ3) en3.wd hp (cut_dd g2) hs q'⟩
  | tuple ds =>
    obtain ⟨a, vs, rfl, g1, g2, g3⟩ := rb.tup en3.wd
    refine .inr ⟨a, vs, rfl, e1 ▸ g1, fun z => ?_, fun _ p o hp ho => fin_tup (k := fun s => k s δ3) en3.wd hp ho (cut_dd g2) hs q'⟩
    refine fin_pub (k := fun s => k s δ3) en3.wd g3 ?_ q'
    have hs : k (.pub (.tuple (cutD ds l u))) δ3 := hs
    rw [whole_cut (α := Nat) g2.len.symm z] at hs
    exact hs
  | _ => exact False.elim hs
end
end DX

namespace DX
open PySem PySem.Spec L2 KX
open PyProof.Rows hiding St
section
variable {C : Ct} {σ : L2.St} {δ : DEnv} {H U : Hp} {i : Nat} {ds es : List PyData} {a : Addr} {vs : List V}
theorem En.own (en : En C σ δ H U) (h : δ[i]? = some (.own ds)) : ∃ a vs, σ[i]? = some (some (.ref a)) ∧ H a = some (.lst vs) ∧ DdAll C.K U vs ds := by
  obtain ⟨o, h1, h2⟩ := en.sl i _ h
  cases o with
  | none => exact h2.elim
  | some v =>
    obtain ⟨a, rfl, _, _, vs, h3, h4⟩ := h2
    exact ⟨a, vs, h1, h3, h4⟩
theorem En.putOwn (en : En C σ δ H U) (h : δ[i]? = some (.own ds)) (hs : σ[i]? = some (some (.ref a))) (da : DdAll C.K U vs es) : En C σ (δ.set i (.own es)) (upd H a (.lst vs)) U := by
  obtain ⟨o, h1, h2⟩ := en.sl i _ h
  rw [hs] at h1
  cases h1
  obtain ⟨b, z, h0, hu, us, hh, hd⟩ := h2
  cases z
  have hi : i < δ.length := by
    rcases Nat.lt_or_ge i δ.length with q | q
    · exact q
    · rw [List.getElem?_eq_none q] at h; cases h
  have nR : ¬ Rm C.R a := Rm.not0 en.wd h0
  refine ⟨⟨fun b o e => ?_, fun b o hr e => ?_, en.wd.vold, en.wd.new, fun d c e => ?_, en.wd.rv, en.wd.r0⟩, by rw [List.length_set]; exact en.len, fun j s hj => ?_, fun j l fs gs b hj hl sj sl => ?_⟩
  · have : b ≠ a := fun z => by subst z; rw [hu] at e; cases e
    rw [upd_ne this]; exact en.wd.sub b o e
  · have : b ≠ a := fun z => by subst z; rw [h0] at e; cases e
    rw [upd_ne this]; exact en.wd.old b o hr e
  · exact C.F.frame (en.wd.rok d c e) (upd_ne fun z => nR ⟨d, c, e, .inl z.symm⟩) (fun b hb => upd_ne fun z => nR ⟨d, c, e, .inr (z ▸ hb)⟩)
  · by_cases q : i = j
    · subst q
      rw [List.getElem?_set_self hi] at hj
      cases hj
      exact ⟨_, hs, a, rfl, h0, hu, vs, upd_same, da⟩
    · rw [List.getElem?_set_ne q] at hj
      obtain ⟨o, g1, g2⟩ := en.sl j s hj
      refine ⟨o, g1, ?_⟩
      cases s with
      | own fs =>
        cases o with
        | none => exact g2
        | some v =>
          obtain ⟨b, rfl, b0, b1, ws, b2, b3⟩ := g2
          have : b ≠ a := fun z => by subst z; exact q (en.sep i j ds fs b h hj hs g1)
          exact ⟨b, rfl, b0, b1, ws, by rw [upd_ne this]; exact b2, b3⟩
      | emp => cases o <;> trivial
      | pub d => cases o <;> exact g2
      | var l => cases o <;> exact g2
      | sup => cases o <;> exact g2
      | supn n =>
        cases o with
        | none => exact g2
        | some v =>
          obtain ⟨d, c, z1, z2, z3⟩ := g2
          exact ⟨d, c, z1, z2, C.F.leF z3 (upd_ne fun z => nR ⟨d, c, z1, .inl z.symm⟩) (fun b hb => upd_ne fun z => nR ⟨d, c, z1, .inr (z ▸ hb)⟩)⟩
      | dto ns =>
        cases o with
        | none => exact g2
        | some v =>
          obtain ⟨b, rfl, b0, b1, xs, hx, b3⟩ := g2
          have : b ≠ a := fun z => by subst z; rw [hh] at hx; cases hx
          exact ⟨b, rfl, b0, b1, xs, by rw [upd_ne this]; exact hx, b3⟩
  · have rj : ∃ f', δ[j]? = some (.own f') := by
      by_cases q : i = j
      · subst q; exact ⟨_, h⟩
      · rw [List.getElem?_set_ne q] at hj; exact ⟨_, hj⟩
    have rl : ∃ f', δ[l]? = some (.own f') := by
      by_cases q : i = l
      · subst q; exact ⟨_, h⟩
      · rw [List.getElem?_set_ne q] at hl; exact ⟨_, hl⟩
    obtain ⟨f1, rj⟩ := rj
    obtain ⟨f2, rl⟩ := rl
    exact en.sep j l f1 f2 b rj rl sj sl
end
section
variable {X : Cx} {F : Fam} {e : Expr} {wa : DE} {i : Nat} {x : Str} {p apos cpos pos : Pos}
theorem xP_pub {C : Ct} {σ : L2.St} {δ : DEnv} {H U : Hp} {v : V} {d : PyData} (o : RsOk C σ δ H U v (.pub d)) : Dd C.K U v d := o
/-- xs.append(e), xs a list of one's own -/
theorem d_append (hN : X.N[i]? = some x := by rfl) (ha : PE X e (lE F X.K wa)) (hv : Vis X.env.scope x := by first | exact Or.inl rfl | exact Or.inr (Or.inl rfl) | exact Or.inr (Or.inr rfl))
    (hd : (x == ("__debug__" : Str)) = false := by decide) (hcd : (x == ("__classdict__" : Str)) = false := by decide)
    (hbase : attributeBase (.Name x p) "append" X.env (eval (.Name x p) X.env) = eval (.Name x p) X.env := by rfl)
    (hfew : ((backTo cpos (starEach [e] X.env)).all (fun x => !x.1) && (backToKw cpos (keywordEach [] X.env)).all (fun x => x.1.isSome)
      && decide ([e].length + ([] : List Keyword).length + (if ([] : List Keyword).isEmpty then 0 else 1) < 30)) = true := by rfl)
    (hline : (apos.endLine == cpos.line) = true := by rfl) (hs : starEach [e] X.env = (false, eval e X.env) :: starEach [] X.env := by rfl) (hplain : (backTo cpos (starEach ([] : List Expr) X.env)).any (·.1) = false := by rfl) :
    PE X (.Call (.Attribute (.Name x p) "append" apos) [e] [] cpos) (lE F X.K (lAppend i wa)) := PE.imp (pe_bm PySem.F.plainAttrs_list PySem.F.slot_list_append PySem.F.type_list_append mt_append (pe_var hN hv hd hcd) (da_cons (d_p ha) da_nil hs) hbase hfew hline hs hplain) fun σ H Q ⟨C, δ, U, k, e1, e2, en, w, q⟩ => by
  obtain ⟨⟨es, hes⟩, w⟩ := w
  obtain ⟨a, vs, h1, h2, h3⟩ := en.own hes
  refine ⟨_, h1, .inl ⟨rfl, vs, SqL.of h2⟩, C, δ, U, fun rs δ1 => ∃ r, rs = [r] ∧ ∃ d ds, r = .pub d ∧ δ1[i]? = some (.own ds) ∧ ds.length < 10000 ∧ k (.pub .none) (δ1.set i (.own (ds ++ [d]))), e1, e2, en, ?_, fun rs δ1 hk us H' U' s en' ho => ?_⟩
  · show xP wa δ _
    refine cast (congrArg (xP wa δ) ?_) w
    funext r δ1
    apply propext
    constructor
    · intro h; exact ⟨r, rfl, h⟩
    · rintro ⟨r', e, h⟩; cases e; exact h
  · obtain ⟨r, rfl, d, ds, rfl, hi, hl, hk⟩ := hk
    cases ho with
    | cons o1 o2 o3 =>
      cases o3
      obtain ⟨a', us', g1, g2, g3⟩ := en'.own hi
      rw [h1] at g1
      cases g1
      refine ⟨a, us', _, rfl, rfl, g2, by rw [g3.len]; exact line10' hl, ?_⟩
      exact q _ _ hk _ _ U' s (en'.putOwn hi h1 (g3.app (.cons o1 .nil))) (show Dd _ _ _ _ from .non)
theorem d_pop (hN : X.N[i]? = some x := by rfl) (hv : Vis X.env.scope x := by first | exact Or.inl rfl | exact Or.inr (Or.inl rfl) | exact Or.inr (Or.inr rfl))
    (hd : (x == ("__debug__" : Str)) = false := by decide) (hcd : (x == ("__classdict__" : Str)) = false := by decide)
    (hbase : attributeBase (.Name x p) "pop" X.env (eval (.Name x p) X.env) = eval (.Name x p) X.env := by rfl) (hline : (apos.endLine == cpos.line) = true := by rfl) :
    PE X (.Call (.Attribute (.Name x p) "pop" apos) [] [] cpos) (lE F X.K (lPop i)) := PE.imp (pe_bm0 PySem.F.plainAttrs_list PySem.F.slot_list_pop PySem.F.type_list_pop mt_pop (pe_var hN hv hd hcd) hbase hline) fun σ H Q ⟨C, δ, U, k, e1, e2, en, w, q⟩ => by
  obtain ⟨ds, d, hi, hl, hk⟩ := w
  obtain ⟨a, vs, h1, h2, h3⟩ := en.own hi
  rw [← h3.len] at hl
  obtain ⟨v, g1, g2⟩ := h3.get hl
  exact ⟨_, h1, .inl ⟨rfl, vs, SqL.of h2⟩, a, vs, v, rfl, rfl, h2, g1, q _ _ hk _ _ U (Same.refl _) (en.putOwn hi h1 h3.dropLast) g2⟩
theorem d_popAt (hN : X.N[i]? = some x := by rfl) (ha : PE X e (lE F X.K wa)) (hv : Vis X.env.scope x := by first | exact Or.inl rfl | exact Or.inr (Or.inl rfl) | exact Or.inr (Or.inr rfl))
    (hd : (x == ("__debug__" : Str)) = false := by decide) (hcd : (x == ("__classdict__" : Str)) = false := by decide)
    (hbase : attributeBase (.Name x p) "pop" X.env (eval (.Name x p) X.env) = eval (.Name x p) X.env := by rfl)
    (hfew : ((backTo cpos (starEach [e] X.env)).all (fun x => !x.1) && (backToKw cpos (keywordEach [] X.env)).all (fun x => x.1.isSome)
      && decide ([e].length + ([] : List Keyword).length + (if ([] : List Keyword).isEmpty then 0 else 1) < 30)) = true := by rfl)
    (hline : (apos.endLine == cpos.line) = true := by rfl) (hs : starEach [e] X.env = (false, eval e X.env) :: starEach [] X.env := by rfl) (hplain : (backTo cpos (starEach ([] : List Expr) X.env)).any (·.1) = false := by rfl) :
    PE X (.Call (.Attribute (.Name x p) "pop" apos) [e] [] cpos) (lE F X.K (lPopAt i wa)) := PE.imp (pe_bm PySem.F.plainAttrs_list PySem.F.slot_list_pop PySem.F.type_list_pop mt_popAt (pe_var hN hv hd hcd) (da_cons (d_p ha) da_nil hs) hbase hfew hline hs hplain) fun σ H Q ⟨C, δ, U, k, e1, e2, en, w, q⟩ => by
  obtain ⟨⟨es, hes⟩, w⟩ := w
  obtain ⟨a, vs, h1, h2, h3⟩ := en.own hes
  refine ⟨_, h1, .inl ⟨rfl, vs, SqL.of h2⟩, C, δ, U, fun rs δ1 => ∃ r, rs = [r] ∧ ∃ j ds k' d, r = .pub (.int j) ∧ δ1[i]? = some (.own ds) ∧ ds.length ≤ 10000 ∧ ixN ds.length j = some k' ∧ ds[k']? = some d ∧ k (.pub d) (δ1.set i (.own (ds.eraseIdx k'))), e1, e2, en, ?_, fun rs δ1 hk us H' U' s en' ho => ?_⟩
  · show xP wa δ _
    refine cast (congrArg (xP wa δ) ?_) w
    funext r δ1
    apply propext
    constructor
    · intro h; exact ⟨r, rfl, h⟩
    · rintro ⟨r', e, h⟩; cases e; exact h
  · obtain ⟨r, rfl, j, ds, k', d, rfl, hi, hlen, hj, hd, hk⟩ := hk
    cases ho with
    | cons o1 o2 o3 =>
      cases o3
      cases o1
      obtain ⟨a', us', g1, g2, g3⟩ := en'.own hi
      rw [h1] at g1
      cases g1
      obtain ⟨v, g4, g5⟩ := g3.get hd
      have hj' := ixN_seq (by rw [← g3.len] at hj; exact hj)
      have hb : us'.length ≤ 10000 := by rw [g3.len]; exact hlen
      refine ⟨a, us', j, k', v, rfl, rfl, g2, by omega, by omega, hj'.1, g4, ?_⟩
      exact q _ _ hk _ _ U' s (en'.putOwn hi h1 (g3.erase _)) g5
/-- x op= e -/
theorem ds_aug {f : O2} {op : Operator} {pos' : Pos} (o : OpS F X (inplaceOp op) f) (hN : X.N.Nodup) (hi : X.N[i]? = some x) (hx : Loc X.env.scope x) (he : PE X e (lE F X.K wa)) (hf : X.fn x = true ∨ X.env.scope.names.lookup x = some .local := by first | exact .inl rfl | exact .inr rfl) :
    PS X (.AugAssign (.Name x pos') op e pos) (lS F X.K (sAug f i wa)) := by
  obtain ⟨r, h1, h2⟩ := o
  refine PS.imp (ps_aug hN hi hx he (show PIp X op r from h1) hf) fun D σ H ⟨C, δ, U, DD, e1, e2, en, w, ok⟩ => ?_
  obtain ⟨d, hd, w⟩ := w
  obtain ⟨v, g1, g2⟩ := en.get hd
  refine ⟨v, g1, C, δ, U, _, e1, e2, en, w, fun r' δ1 hk u H1 U1 s1 en1 o1 => ?_⟩
  obtain ⟨U2, s2, en2, ho2⟩ := hold_of en1 o1
  obtain ⟨y, hy, hf⟩ := hk
  refine h2 C H1 U2 v u d y _ _ e1 e2 en2.wd (.inl (Dd.same (s1.trans s2) g2)) (rdb_of en2 ho2 hy) hf fun s hs z H3 U3 x3 ok3 => ?_
  obtain ⟨δ4, U4, k4, s4, en4⟩ := gn_ok (en2.ext x3) (rs_new en2 x3 ok3) hs
  exact ok.nx δ4 k4 _ _ U4 en4
theorem s_iadd : OpS F X (inplaceOp .Add) oAddI := ⟨_, iop_add.or iop_add_str, fun C H U x y d e k Q e1 e2 w rx ry h q => by
  cases d with
  | int a => cases e with
    | int b => exact .inl ⟨a, b, rx.int, ry.int, fin_pub w (.int _) h q⟩
    | _ => exact False.elim h
  | str a => cases e with
    | str b => exact .inr ⟨a, b, rx.str, ry.str, h.1, fin_pub w (.str _) h.2 q⟩
    | _ => exact False.elim h
  | _ => exact False.elim h⟩
theorem s_isub : OpS F X (inplaceOp .Sub) oSub := ops_int0 (gd := fun i j => .int (i - j)) iop_sub (fun i j U => .int _) fun d e k h => by
  cases d <;> cases e <;> simp only [oSub] at h; exact ⟨_, _, rfl, rfl, h⟩
/-- xs[w] = u, xs a list of one's own -/
theorem d_gsub {o ix : Expr} {px : Pos} (hN : X.N[i]? = some x := by rfl) (hi : PE X ix (lE F X.K wa)) (hv : Vis X.env.scope x := by first | exact Or.inl rfl | exact Or.inr (Or.inl rfl) | exact Or.inr (Or.inr rfl))
    (hd : (x == ("__debug__" : Str)) = false := by decide) (hcd : (x == ("__classdict__" : Str)) = false := by decide)
    (ha : ∀ v, assign (.Subscript (.Name x px) ix pos) X.env v = (do
      let ov ← holding [v] (eval (.Name x px) X.env)
      let iv ← holding [v, ov] (eval ix X.env)
      standAt pos
      holding [v, ov, iv] (setItem ov iv v)
      release [v, ov, iv] []) := by intro _; rfl) : PG X (.Subscript (.Name x px) ix pos) (lG F X.K true (gSubL i wa)) := PG.imp (pg_sub (pe_var hN hv hd hcd) hi set_list ha) fun v σ H Q ⟨C, δ, U, k, r, e1, e2, en, o, hg, q⟩ => by
  obtain ⟨⟨es, hes⟩, d, hr, w⟩ := hg
  obtain ⟨a, vs, h1, h2, h3⟩ := en.own hes
  obtain ⟨U0, s0, en0, ho⟩ := hold_of en (rsB_ok o)
  have dv : Dd C.K U0 v d := by cases r <;> cases hr <;> exact ho
  refine ⟨_, h1, C, δ, U0, _, e1, e2, en0, w, fun r2 δ1 hk u H1 U1 s1 en1 o1 => ?_⟩
  obtain ⟨U2, s2, en2, ho2⟩ := hold_of en1 o1
  obtain ⟨j, ds, k', hj, hi', hx, hk⟩ := hk
  obtain rfl := int_of en2 ho2 hj
  obtain ⟨a', us, g1, g2, g3⟩ := en2.own hi'
  rw [h1] at g1
  cases g1
  exact ⟨a, us, j, k', rfl, rfl, g2, by rw [g3.len]; exact hx, q _ hk _ _ U2 (s0.trans (s1.trans s2)) (en2.putOwn hi' h1 (DdAll.set (Dd.same (s1.trans s2) dv) k' g3))⟩
end
end DX

namespace DX
open PySem PySem.Spec L2 KX
open PyProof.Rows hiding St
section
variable {X : Cx} {F : Fam} {e : Expr}
theorem d_q {w : DE} (h : PE X e (lE F X.K w)) : PE X e (lE F X.K (xQ w)) := by
  refine lE_imp (w := w) (w' := xQ w) (fun C σ δ H U k e1 en hw => ⟨δ, U, _, Same.refl _, en, hw, fun r δ' hk v H' U' en' ho => ?_⟩) h
  cases r with
  | emp => exact False.elim hk
  | pub d => exact ⟨δ', U', _, hk, Same.refl _, en', ho⟩
  | sup => exact ⟨δ', U', _, hk, Same.refl _, en', ho⟩
  | supn n => exact ⟨δ', U', _, hk, Same.refl _, en', ho⟩
  | dto n => exact False.elim hk
  | own ds => exact ⟨δ', U', _, hk, Same.refl _, en', ho⟩
  | var i =>
    obtain ⟨d, h1, h2⟩ := hk
    obtain ⟨U2, s2, en2⟩ := en'.pb i
    refine ⟨_, U2, .pub d, h2, s2, en2, ?_⟩
    obtain ⟨u, g1, g2⟩ := en2.get (pb_pub h1)
    have ho : σ[i]? = some (some v) := ho
    rw [ho] at g1
    cases g1
    exact g2
end
/-! the law itself: its first row makes the store -/
def spLaw (K : PySem.W.Frag) : Sp := fun vs H Q _ => ∃ (a : Addr) (ns : List Int), vs = [.ref a] ∧ SqL K H a (ns.map V.int) ∧ ns.length ≤ 63 ∧ ∀ H', Q (.bl true) H'
/-- a maker of the store -/
def spMake (F : Fam) (K : PySem.W.Frag) : Sp := fun vs H Q _ => ∃ (a : Addr) (ns : List Int), vs = [.ref a] ∧ SqL K H a (ns.map V.int) ∧ ns.length ≤ 63 ∧ ∀ (d : Addr) (c : List Addr) (H' : Hp), F.ok H' d c → Q (.ref d) H'
theorem en_law {F : Fam} {K : PySem.W.Frag} {H : Hp} {d : Addr} {c : List Addr} {σ : L2.St} {n i : Nat} (ok : F.ok H d c) (hl : σ.length = n) (hi : i < n) (hs : σ[i]? = some (some (V.ref d))) :
    En ⟨K, F, some (d, c), H, fun _ => none⟩ σ ((List.replicate n Sl.emp).set i .sup) H (fun _ => none) := by
  refine ⟨⟨fun _ _ e => (by cases e), fun _ _ _ e => e, fun _ _ e => (by cases e), fun _ _ e => (by cases e), fun d' c' e => ?_, fun _ _ => rfl, fun a hr => ?_⟩, by simp [hl], fun j s e => ?_, fun j k ds es a h1 _ _ _ => ?_⟩
  · cases e; exact ok
  · obtain ⟨d', c', e, h | h⟩ := hr
    · cases e; subst h; exact F.liveD ok
    · cases e; exact F.liveC ok _ h
  · by_cases q : i = j
    · subst q
      rw [List.getElem?_set_self (by simp [hi])] at e
      cases e
      exact ⟨_, hs, d, c, rfl, rfl⟩
    · rw [List.getElem?_set_ne q] at e
      have hm := List.mem_of_getElem? e
      rw [List.mem_replicate] at hm
      obtain ⟨_, rfl⟩ := hm
      have hj : j < n := by
        rcases Nat.lt_or_ge j n with z | z
        · exact z
        · rw [List.getElem?_eq_none (by simpa using z)] at e; cases e
      exact ⟨σ[j]'(by omega), List.getElem?_eq_getElem (by omega), by cases σ[j]'(by omega) <;> trivial⟩
  · by_cases q : i = j
    · subst q
      rw [List.getElem?_set_self (by simp [hi])] at h1; cases h1
    · rw [List.getElem?_set_ne q] at h1
      have hm := List.mem_of_getElem? h1
      rw [List.mem_replicate] at hm
      cases hm.2
section
variable {F : Fam} {P : Program} {w : World} {K : PySem.W.Frag} {mg : Str → Option Value} {base : Heap} {N : List Str} {k : Nat} {qual : Str} {st : Stmt} {f : Addr} {fd : FuncData} {x0 : Str}
theorem okLaw {i n : Nat} {E' : XK} (Fn : Fun K "law" qual st f fd) (S : FnScope N [x0] (defScope st)) {wd : DS}
    (hb : ∀ (cdv : Value) (A : Around) (outer : List Env) (s : Shared) (H : Hp) (E : XK), A.guards = some [] → Room k (A.deeper (envOfC qual (defScope st) s.heap.objs.size f cdv)) →
      PSs (cxOf CX0 P w K mg base N qual (defScope st) f cdv A outer s H E).nox (defBody st) (tSeq (tAsg (tCall (spMake F K) [] E' (tCons (tVar 0) tNil)) (gName i)) (lS F K wd)))
    (hn : N.length = n) (hi : i < n) (hd : wd { nx := fun _ => False, rt := fun r => r = .pub (.bool true) } ((List.replicate n Sl.emp).set i .sup)) : FnOkG P w K mg base CX0 (k + 1) f fd [x0] (spLaw K) := by
  refine Fun.okG Fn S (fun vs H Q E h => ?_) fun cdv A outer s H vs Q E hgd hr h => ⟨_, hb cdv A outer s H E hgd hr, ?_⟩
  · obtain ⟨a, ns, rfl, _⟩ := h; rfl
  · obtain ⟨a, ns, rfl, hS, hl, hq⟩ := h
    refine ⟨.ref a, rfl, a, ns, rfl, hS, hl, fun d c H' ok => ?_⟩
    have hlen : (L2.start N [V.ref a]).length = n := by unfold L2.start; simp; omega
    refine ⟨⟨K, F, some (d, c), H', fun _ => none⟩, _, fun _ => none, _, rfl, rfl, en_law ok (by rw [List.length_set]; exact hlen) hi (List.getElem?_set_self (by rw [hlen]; exact hi)), hd, fun δ h => h.elim, fun δ h => h.elim, fun δ h => h.elim, fun r h v H2 U2 w2 o => ?_⟩
    subst h
    cases o
    exact hq H2
end
/-! stores of two things -/
def ok1 (S : Hp → Addr → Addr → Prop) (H : Hp) (d : Addr) : List Addr → Prop
  | [c] => S H d c
  | _ => False
theorem ok1_ex {S : Hp → Addr → Addr → Prop} {H : Hp} {d : Addr} {c : List Addr} (h : ok1 S H d c) : ∃ c0, c = [c0] ∧ S H d c0 := by
  match c, h with
  | [c0], h => exact ⟨c0, rfl, h⟩
theorem ok1_frame {S : Hp → Addr → Addr → Prop} (hS : ∀ {H H' : Hp} {d c : Addr}, S H d c → H' d = H d → H' c = H c → S H' d c) {H H' : Hp} {d : Addr} {c : List Addr} (h : ok1 S H d c) (e1 : H' d = H d) (e2 : ∀ a ∈ c, H' a = H a) : ok1 S H' d c := by
  obtain ⟨c0, rfl, h⟩ := ok1_ex h
  exact hS h e1 (e2 _ List.mem_cons_self)
theorem ok1_liveD {S : Hp → Addr → Addr → Prop} (hS : ∀ {H : Hp} {d c : Addr}, S H d c → H d ≠ none) {H : Hp} {d : Addr} {c : List Addr} (h : ok1 S H d c) : H d ≠ none := by
  obtain ⟨c0, rfl, h⟩ := ok1_ex h
  exact hS h
theorem ok1_liveC {S : Hp → Addr → Addr → Prop} (hS : ∀ {H : Hp} {d c : Addr}, S H d c → H c ≠ none) {H : Hp} {d : Addr} {c : List Addr} (h : ok1 S H d c) : ∀ a ∈ c, H a ≠ none := by
  obtain ⟨c0, rfl, h⟩ := ok1_ex h
  intro a ha
  rw [List.mem_singleton.mp ha]
  exact hS h
/-! the first family's store -/
def famSup : Fam where
  ok H d c := ok1 Sup H d c
  frame h e1 e2 := ok1_frame (fun {H H' d c} h e1 e2 => by
    obtain ⟨cells, t, b, h1, h2, h3⟩ := h.ex
    exact ⟨cells, t, b, e1.trans h1, e2.trans h2, h3⟩) h e1 e2
  liveD h := ok1_liveD (fun h => h.hasD) h
  liveC h := ok1_liveC (fun h => h.hasC) h
  triv := True
  le _ _ _ _ := True
  leT _ _ _ _ _ := trivial
  leF _ _ _ := trivial
  leM _ _ := trivial
/-- a draw -/
def S_law_take : DF := fun as k => ∃ m, as = [.sup, .pub (.int m)] ∧ 0 < m ∧ m < 2 ^ 62 ∧ ∀ r : Int, 0 ≤ r → r < m → k (.pub (.int r))
@[simp] def tupI (ns : List Int) : PyData := .tuple (ns.map .int)
@[simp] def lstI (ns : List Int) : PyData := .list (ns.map .int)
def S_law_row : DF := fun as k => ∃ n : Nat, as = [.sup, .pub (.int (n : Int))] ∧ 1 ≤ n ∧ n ≤ 29 ∧ ∀ row : List Int, RowOk row → row.length ≤ n → row ≠ [] → k (.pub (tupI row))
section
variable {P : Program} {w : World} {K : PySem.W.Frag} {mg : Str → Option Value} {base : Heap} {k : Nat} {f : Addr} {fd : FuncData} {ps : List Str}
theorem FnOkG.imp {CX : CXT} {sp sp' : Sp} (G : FnOkG P w K mg base CX k f fd ps sp) (i : ∀ vs H Q E, sp' vs H Q E → sp vs H Q E) : FnOkG P w K mg base CX k f fd ps sp' :=
  ⟨fun vs H Q E h => G.len vs H Q E (i _ _ _ _ h), fun A outer s H args us vs Q E hg hr e0 hb r h => G.run A outer s H args us vs Q E hg hr e0 hb r (i _ _ _ _ h)⟩
theorem FnOk.impD {CX : CXT} {sp sp' : Sp} (G : FnOk P w K mg base CX k f fd ps sp) (i : ∀ vs H Q E, sp' vs H Q E → sp vs H Q E) : FnOk P w K mg base CX k f fd ps sp' :=
  ⟨fun vs H Q E h => G.len vs H Q E (i _ _ _ _ h), fun A outer s H args us vs Q E hr e0 hb r h => G.run A outer s H args us vs Q E hr e0 hb r (i _ _ _ _ h)⟩
theorem make_sup (G : FnOk P w K mg base CX0 k f fd ps (spSupply K)) : FnOk P w K mg base CX0 k f fd ps (spMake famSup K) := FnOk.impD G fun vs H Q E ⟨a, ns, e, h1, h2, q⟩ => ⟨a, ns, e, h1, h2, fun d c H' _ _ _ ok => q d [c] H' ok⟩
/-- the state after the store was changed -/
theorem ext_sup {C : Ct} {H U H' : Hp} {d c : Addr} (e2 : C.F = famSup) (hR : C.R = some (d, [c])) (w : Wd C H U) (S : Sup H' d c) (x : SameX H H' d c) : Ext C H U H' U := by
  refine ⟨fun a o hr e => x a o (fun z => hr ⟨d, [c], hR, .inl z⟩) (fun z => hr ⟨d, [c], hR, .inr (by rw [z]; exact List.mem_cons_self)⟩) e, Same.refl _, fun a o e => ?_, fun a o e => .inl e, fun d' c' e => ?_⟩
  · have nr : ¬ Rm C.R a := fun z => by rw [w.rv a z] at e; cases e
    exact x a o (fun z => nr ⟨d, [c], hR, .inl z⟩) (fun z => nr ⟨d, [c], hR, .inr (by rw [z]; exact List.mem_cons_self)⟩) (w.sub _ _ e)
  · rw [hR] at e; cases e; rw [e2]; exact S
theorem take_D (G : FnOk P w K mg base CX0 k f fd ps spTake) : FnOkG P w K mg base CX0 k f fd ps (spD famSup K S_law_take) := FnOkG.imp (FnOk.toG G) fun vs H Q E ⟨C, U, as, kk, e1, e2, e3, e4, wd, ar, ⟨m, ha, h0, h1, hk⟩, q⟩ => by
  subst ha
  cases ar with
  | cons a1 ar =>
    cases ar with
    | cons a2 ar =>
      cases ar
      obtain ⟨d, c, hR, rfl⟩ := a1
      cases a2
      have ho := wd.rok d c hR
      rw [e2] at ho
      obtain ⟨c, rfl, ho⟩ := ok1_ex ho
      refine ⟨d, c, m, rfl, ho, h0, h1, fun r H' hr0 hr1 S' sx => ?_⟩
      exact q _ (hk r hr0 hr1) _ H' U (ext_sup e2 hR wd S' sx) (show Dd _ _ _ _ from .int r)
end
end DX

namespace DX
open PySem PySem.Spec L2 KX
open PyProof.Rows hiding St
/-! the readings again, as rewriting -/
/-- keeps what it marks from being rewritten -/
abbrev Tag {α : Sort u} (f : α) : Type := Unit
def withD {α : Type} (o : Option α) (f : α → Prop) (_ : Tag f := ()) : Prop := match o with
  | some x => f x
  | none => False
@[simp ↓] theorem withD_some {α : Type} (x : α) (f : α → Prop) : withD (some x) f = f x := rfl
@[simp] theorem withD_none {α : Type} (f : α → Prop) : withD none f = False := rfl
theorem withD_ex {α : Type} (o : Option α) (f : α → Prop) : withD o f = ∃ x, o = some x ∧ f x := by
  cases o <;> simp [withD]
def withB (o : Option PyData) (f : Bool → Prop) (_ : Tag f := ()) : Prop := match o with
  | some (.bool x) => f x
  | _ => False
@[simp ↓] theorem withB_some (x : Bool) (f : Bool → Prop) : withB (some (.bool x)) f = f x := rfl
theorem withB_ex (o : Option PyData) (f : Bool → Prop) : withB o f = ∃ x, o = some (.bool x) ∧ f x := by
  apply propext
  constructor
  · intro h
    unfold withB at h
    split at h
    · exact ⟨_, rfl, h⟩
    · exact h.elim
  · rintro ⟨x, rfl, h⟩; exact h
def withI (o : Option PyData) (f : Int → Prop) (_ : Tag f := ()) : Prop := match o with
  | some (.int x) => f x
  | _ => False
@[simp ↓] theorem withI_some (x : Int) (f : Int → Prop) : withI (some (.int x)) f = f x := rfl
theorem withI_ex (o : Option PyData) (f : Int → Prop) : withI o f = ∃ x, o = some (.int x) ∧ f x := by
  apply propext
  constructor
  · intro h
    unfold withI at h
    split at h
    · exact ⟨_, rfl, h⟩
    · exact h.elim
  · rintro ⟨x, rfl, h⟩; exact h
def withO (o : Option Sl) (f : List PyData → Prop) (_ : Tag f := ()) : Prop := match o with
  | some (.own x) => f x
  | _ => False
@[simp ↓] theorem withO_some (x : List PyData) (f : List PyData → Prop) : withO (some (.own x)) f = f x := rfl
theorem withO_ex (o : Option Sl) (f : List PyData → Prop) : withO o f = ∃ x, o = some (.own x) ∧ f x := by
  apply propext
  constructor
  · intro h
    unfold withO at h
    split at h
    · exact ⟨_, rfl, h⟩
    · exact h.elim
  · rintro ⟨x, rfl, h⟩; exact h
def withT (o : Option PyData) (f : List PyData → Prop) (_ : Tag f := ()) : Prop := match o with
  | some (.tuple x) => f x
  | _ => False
@[simp ↓] theorem withT_some (x : List PyData) (f : List PyData → Prop) : withT (some (.tuple x)) f = f x := rfl
theorem withT_ex (o : Option PyData) (f : List PyData → Prop) : withT o f = ∃ x, o = some (.tuple x) ∧ f x := by
  apply propext
  constructor
  · intro h
    unfold withT at h
    split at h
    · exact ⟨_, rfl, h⟩
    · exact h.elim
  · rintro ⟨x, rfl, h⟩; exact h
def withS (o : Sl) (f : List PyData → Prop) (_ : Tag f := ()) : Prop := match o with
  | .pub (.tuple x) => f x
  | .pub (.list x) => f x
  | _ => False
@[simp ↓] theorem withS_t (x : List PyData) (f : List PyData → Prop) : withS (.pub (.tuple x)) f = f x := rfl
@[simp ↓] theorem withS_l (x : List PyData) (f : List PyData → Prop) : withS (.pub (.list x)) f = f x := rfl
theorem withS_ex (o : Sl) (f : List PyData → Prop) : withS o f = ∃ ds, (o = .pub (.list ds) ∨ o = .pub (.tuple ds)) ∧ f ds := by
  apply propext
  constructor
  · intro h
    unfold withS at h
    split at h
    · exact ⟨_, .inr rfl, h⟩
    · exact ⟨_, .inl rfl, h⟩
    · exact h.elim
  · rintro ⟨x, rfl | rfl, h⟩ <;> exact h
def withP (o : Sl) (f : PyData → Prop) (_ : Tag f := ()) : Prop := match o with
  | .pub x => f x
  | _ => False
@[simp ↓] theorem withP_pub (x : PyData) (f : PyData → Prop) : withP (.pub x) f = f x := rfl
theorem withP_ex (o : Sl) (f : PyData → Prop) : withP o f = ∃ d, o = .pub d ∧ f d := by
  cases o <;> simp [withP]
def cnd (b : Bool) (A B : Prop) (_ : Tag A := ()) (_ : Tag B := ()) : Prop := if b = true then A else B
@[simp ↓] theorem cnd_t (A B : Prop) : cnd true A B = A := if_pos rfl
@[simp ↓] theorem cnd_f (A B : Prop) : cnd false A B = B := if_neg (by decide)
theorem cnd_of {b : Bool} {A B : Prop} (h1 : b = true → A) (h2 : b = false → B) : cnd b A B := by cases b <;> simp <;> first | exact h2 rfl | exact h1 rfl
def varK (i : Nat) (Q : Sl → DEnv → Prop) (δ : DEnv) (o : Option Sl) (_ : Tag Q := ()) : Prop := match o with
  | some (.pub d) => Q (.pub d) δ
  | some (.own _) => Q (.var i) δ
  | some .sup => Q .sup δ
  | some (.supn n) => Q (.supn n) δ
  | _ => False
@[simp ↓] theorem varK_pub (i : Nat) (Q : Sl → DEnv → Prop) (δ : DEnv) (d : PyData) : varK i Q δ (some (.pub d)) = Q (.pub d) δ := rfl
@[simp ↓] theorem varK_own (i : Nat) (Q : Sl → DEnv → Prop) (δ : DEnv) (d : List PyData) : varK i Q δ (some (.own d)) = Q (.var i) δ := rfl
@[simp ↓] theorem varK_supn (i n : Nat) (Q : Sl → DEnv → Prop) (δ : DEnv) : varK i Q δ (some (.supn n)) = Q (.supn n) δ := rfl
@[simp ↓] theorem varK_sup (i : Nat) (Q : Sl → DEnv → Prop) (δ : DEnv) : varK i Q δ (some .sup) = Q .sup δ := rfl
section
variable (w wa wb : DE) (δ : DEnv) (Q : Sl → DEnv → Prop) (ws : DA)
@[simp ↓] theorem xC_s (d : PyData) : xC d δ Q = Q (.pub d) δ := rfl
@[simp ↓] theorem xV_s (i : Nat) : xV i δ Q = varK i Q δ δ[i]? := by
  unfold xV varK; rfl
@[simp ↓] theorem xPs_s (is : List Nat) : xPs is w δ Q = w (pbs is δ) Q := rfl
@[simp ↓] theorem aN_s (Q : List Sl → DEnv → Prop) : aN δ Q = Q [] δ := rfl
@[simp ↓] theorem aC_s (Q : List Sl → DEnv → Prop) : aC w ws δ Q = w δ fun r δ1 => ws δ1 fun rs δ2 => Q (r :: rs) δ2 := rfl
@[simp ↓] theorem xIf_s (c : DT) : xIf c wa wb δ Q = c δ fun b δ1 => cnd b (wa δ1 Q) (wb δ1 Q) := rfl
@[simp ↓] theorem tAnd_s (a b : DT) (Q : Bool → DEnv → Prop) : tAnd' a b δ Q = a δ fun c δ1 => cnd c (b δ1 Q) (Q false δ1) := rfl
@[simp ↓] theorem tOr_s (a b : DT) (Q : Bool → DEnv → Prop) : tOr' a b δ Q = a δ fun c δ1 => cnd c (Q true δ1) (b δ1 Q) := rfl
@[simp ↓] theorem tNot_s (a : DT) (Q : Bool → DEnv → Prop) : tNot' a δ Q = a δ fun c δ1 => Q (!c) δ1 := rfl
@[simp ↓] theorem tYes_s (Q : Bool → DEnv → Prop) : tYes' δ Q = Q true δ := rfl
def lcQ (g : DG) (tt : DT) (te : DE) (δ : DEnv) (xs : List PyData) (Q : List PyData → Prop) (_ : Tag Q := ()) : Prop := lcGo g tt te δ xs [] Q
@[simp ↓] theorem xLc_s (vs : List Nat) (it : DI) (g : DG) (tt : DT) (te : DE) : xLc vs it g tt te δ Q = it δ fun xs δ1 => xs.length ≤ 10000 ∧ lcQ g tt te (wip (hid δ1) vs) xs fun acc => Q (.own acc) δ1 := rfl
variable (D : DEnds) (a b : DS)
@[simp ↓] theorem sNx_s : sNx D δ = D.nx δ := rfl
@[simp ↓] theorem sSeq_s : sSeq a b D δ = a { D with nx := b D } δ := rfl
@[simp ↓] theorem sAsg_s (g : DG) : sAsg w g D δ = w δ fun r δ1 => g r δ1 D.nx := rfl
@[simp ↓] theorem sPar_s (l : List Nat) : sPar l ws D δ = ws δ fun rs δ1 => rs.length = l.length ∧ rs.all noVar = true ∧ rs.length ≤ 10000 ∧ gsl (l.map gN) rs δ1 D.nx := rfl
@[simp ↓] theorem sExp_s : sExp w D δ = w δ fun _ δ1 => D.nx δ1 := rfl
@[simp ↓] theorem sRet_s : sRet w D δ = w δ fun r δ1 => retOf D δ1 r := rfl
@[simp ↓] theorem retOf_pub (d : PyData) : retOf D δ (.pub d) = D.rt (.pub d) := rfl
@[simp ↓] theorem retOf_own (d : List PyData) : retOf D δ (.own d) = D.rt (.own d) := rfl
def retV (D : DEnds) : Option Sl → Prop
  | some (.own ds) => D.rt (.own ds)
  | some (.pub d) => D.rt (.pub d)
  | _ => False
@[simp ↓] theorem retV_own (d : List PyData) : retV D (some (.own d)) = D.rt (.own d) := rfl
@[simp ↓] theorem retV_pub (d : PyData) : retV D (some (.pub d)) = D.rt (.pub d) := rfl
@[simp ↓] theorem retOf_var (i : Nat) : retOf D δ (.var i) = retV D δ[i]? := by
  unfold retOf retV; rfl
@[simp ↓] theorem sRetN_s : sRetN D δ = D.rt (.pub .none) := rfl
@[simp ↓] theorem sIf_s (c : DT) : sIf c a b D δ = c δ fun k δ1 => cnd k (a D δ1) (b D δ1) := rfl
@[simp ↓] theorem sBrk_s : sBrk D δ = D.bk δ := rfl
@[simp ↓] theorem sCnt_s : sCnt D δ = D.ct δ := rfl
@[simp ↓] theorem sNever_s : sNever D δ = False := rfl
def forQ (g : DG) (b : DS) (D : DEnds) (xs : List PyData) (δ : DEnv) (_ : Tag D := ()) : Prop := forGo g b D xs δ
@[simp ↓] theorem sFor_s (it : DI) (g : DG) : sFor it g b D δ = it δ fun xs δ1 => forQ g b D xs δ1 := rfl
def whQ (c : DT) (b : DS) (D : DEnds) (δ : DEnv) (_ : Tag D := ()) : Prop := ∃ n, whGo c b D n δ
@[simp ↓] theorem sWhile_s (c : DT) : sWhile c b D δ = whQ c b D δ := rfl
@[simp ↓] theorem pN_s (Q : Option Int → DEnv → Prop) : pN δ Q = Q none δ := rfl
/-- a result is let go -/
def pubK (k : Sl → DEnv → Prop) (r : Sl) (δ : DEnv) (_ : Tag k := ()) : Prop := match r with
  | .var i => withD (rd δ (.var i)) fun d => k (.pub d) (pb δ i)
  | .own ds => k (.pub (.list ds)) δ
  | .pub d => k (.pub d) δ
  | .sup => k .sup δ
  | .supn n => k (.supn n) δ
  | .dto _ => False
  | .emp => False
@[simp ↓] theorem pubK_pub (k : Sl → DEnv → Prop) (d : PyData) : pubK k (.pub d) δ = k (.pub d) δ := rfl
@[simp ↓] theorem pubK_own (k : Sl → DEnv → Prop) (d : List PyData) : pubK k (.own d) δ = k (.pub (.list d)) δ := rfl
@[simp ↓] theorem pubK_supn (k : Sl → DEnv → Prop) (n : Nat) : pubK k (.supn n) δ = k (.supn n) δ := rfl
@[simp ↓] theorem pubK_sup (k : Sl → DEnv → Prop) : pubK k .sup δ = k .sup δ := rfl
@[simp ↓] theorem pubK_var (k : Sl → DEnv → Prop) (i : Nat) : pubK k (.var i) δ = withD (rd δ (.var i)) fun d => k (.pub d) (pb δ i) := rfl
@[simp ↓] theorem xP_s : xP w δ Q = w δ (fun r δ1 => pubK Q r δ1) := by
  unfold xP; congr; funext r δ1; cases r <;> simp [pubK, withD_ex]
def keepK (k : Sl → DEnv → Prop) (r : Sl) (δ : DEnv) (_ : Tag k := ()) : Prop := match r with
  | .var i => withD (rd δ (.var i)) fun d => k (.pub d) (pb δ i)
  | .own ds => k (.own ds) δ
  | .pub d => k (.pub d) δ
  | .sup => k .sup δ
  | .supn n => k (.supn n) δ
  | .dto _ => False
  | .emp => False
@[simp ↓] theorem keepK_pub (k : Sl → DEnv → Prop) (d : PyData) : keepK k (.pub d) δ = k (.pub d) δ := rfl
@[simp ↓] theorem keepK_own (k : Sl → DEnv → Prop) (d : List PyData) : keepK k (.own d) δ = k (.own d) δ := rfl
@[simp ↓] theorem keepK_supn (k : Sl → DEnv → Prop) (n : Nat) : keepK k (.supn n) δ = k (.supn n) δ := rfl
@[simp ↓] theorem keepK_sup (k : Sl → DEnv → Prop) : keepK k .sup δ = k .sup δ := rfl
@[simp ↓] theorem keepK_var (k : Sl → DEnv → Prop) (i : Nat) : keepK k (.var i) δ = withD (rd δ (.var i)) fun d => k (.pub d) (pb δ i) := rfl
@[simp ↓] theorem xQ_s : xQ w δ Q = w δ (fun r δ1 => keepK Q r δ1) := by
  unfold xQ; congr; funext r δ1; cases r <;> simp [keepK, withD_ex]
@[simp ↓] theorem x1_s (f : O1) : x1 f wa δ Q = wa δ fun r δ1 => withD (rd δ1 r) fun x => f x fun s => Q s δ1 := by simp only [x1, withD_ex]
@[simp ↓] theorem x2_s (f : O2) : x2 f wa wb δ Q = wa δ fun r δ1 => wb δ1 fun s δ2 => withD (rd δ2 r) fun x => withD (rd δ2 s) fun y => f x y fun z => Q z δ2 := by
  unfold x2; congr; funext r δ1; congr; funext s δ2
  rw [withD_ex]
  apply propext
  constructor
  · rintro ⟨x, y, h1, h2, h3⟩; exact ⟨x, h1, by rw [withD_ex]; exact ⟨y, h2, h3⟩⟩
  · rintro ⟨x, h1, h2⟩; rw [withD_ex] at h2; obtain ⟨y, h2, h3⟩ := h2; exact ⟨x, y, h1, h2, h3⟩
@[simp ↓] theorem xLst_s : xLst ws δ Q = ws δ fun rs δ1 => withD (pubs rs) fun ds => ds.length ≤ 10000 ∧ Q (.own ds) δ1 := by simp only [xLst, withD_ex]
@[simp ↓] theorem xTup_s : xTup ws δ Q = ws δ fun rs δ1 => withD (pubs rs) fun ds => ds.length ≤ 10000 ∧ Q (.pub (.tuple ds)) δ1 := by simp only [xTup, withD_ex]
@[simp ↓] theorem xAnd_s : xAnd wa wb δ Q = wa δ fun r δ1 => withB (rd δ1 r) fun c => cnd c (wb δ1 Q) (Q (.pub (.bool false)) δ1) := by simp only [xAnd, withB_ex, cnd]
@[simp ↓] theorem xOr_s : xOr wa wb δ Q = wa δ fun r δ1 => withB (rd δ1 r) fun c => cnd c (Q (.pub (.bool true)) δ1) (wb δ1 Q) := by simp only [xOr, withB_ex, cnd]
@[simp ↓] theorem xNot_s : xNot wa δ Q = wa δ fun r δ1 => withB (rd δ1 r) fun c => Q (.pub (.bool (!c))) δ1 := by simp only [xNot, withB_ex]
@[simp ↓] theorem tV_s (Q : Bool → DEnv → Prop) : tV w δ Q = w δ fun r δ1 => withB (rd δ1 r) fun c => Q c δ1 := by simp only [tV, withB_ex]
@[simp ↓] theorem gN_pub (i : Nat) (d : PyData) (Q : DEnv → Prop) : gN i (.pub d) δ Q = Q (δ.set i (.pub d)) := rfl
@[simp ↓] theorem gN_own (i : Nat) (d : List PyData) (Q : DEnv → Prop) : gN i (.own d) δ Q = Q (δ.set i (.own d)) := rfl
@[simp ↓] theorem gN_sup (i : Nat) (Q : DEnv → Prop) : gN i .sup δ Q = Q (δ.set i .sup) := rfl
@[simp ↓] theorem gN_var (i j : Nat) (Q : DEnv → Prop) : gN i (.var j) δ Q = withD (rd δ (.var j)) fun d => Q ((pb δ j).set i (.pub d)) := by rw [withD_ex]; rfl
@[simp ↓] theorem gT_s (l : List DG) (r : Sl) (Q : DEnv → Prop) : gT l r δ Q = withT (rd δ r) fun ds => ds.length = l.length ∧ gs l ds δ Q := by simp only [gT, withT_ex]
@[simp ↓] theorem iX_s (Q : List PyData → DEnv → Prop) : iX w δ Q = w δ fun r δ1 => pubK (fun r δ1 => withS r fun ds => Q ds δ1) r δ1 := by
  unfold iX; rw [xP_s]
  have : (fun (r : Sl) (δ1 : DEnv) => ∃ ds, (r = .pub (.list ds) ∨ r = .pub (.tuple ds)) ∧ Q ds δ1) = fun r δ1 => withS r fun ds => Q ds δ1 := by
    funext r δ1; rw [withS_ex]
  rw [this]
@[simp ↓] theorem iE_s (Q : List PyData → DEnv → Prop) : iE w δ Q = w δ fun r δ1 => pubK (fun r δ1 => withS r fun ds => Q (pairs 0 ds) δ1) r δ1 := by
  unfold iE; rw [xP_s]
  have : (fun (r : Sl) (δ1 : DEnv) => ∃ ds, (r = .pub (.list ds) ∨ r = .pub (.tuple ds)) ∧ Q (pairs 0 ds) δ1) = fun r δ1 => withS r fun ds => Q (pairs 0 ds) δ1 := by
    funext r δ1; rw [withS_ex]
  rw [this]
def oneI (k : Int → DEnv → Prop) (δ : DEnv) (l : List Sl) (_ : Tag k := ()) : Prop := match l with
  | [r] => withI (rd δ r) fun j => k j δ
  | _ => False
@[simp ↓] theorem oneI_s (k : Int → DEnv → Prop) (r : Sl) : oneI k δ [r] = withI (rd δ r) fun j => k j δ := rfl
@[simp ↓] theorem iR1_s (Q : List PyData → DEnv → Prop) : iR1 ws δ Q = ws δ fun rs δ1 => oneI (fun j δ1 => i62 j ∧ Q (rngD 0 j.toNat) δ1) δ1 rs := by
  unfold iR1; congr; funext rs δ1
  apply propext
  constructor
  · rintro ⟨r, j, rfl, h1, h2⟩; rw [oneI_s, withI_ex]; exact ⟨j, h1, h2⟩
  · intro h
    match rs, h with
    | [r], h => rw [oneI_s, withI_ex] at h; obtain ⟨j, h1, h2⟩ := h; exact ⟨r, j, rfl, h1, h2⟩
def twoI (k : Int → Int → DEnv → Prop) (δ : DEnv) (l : List Sl) (_ : Tag k := ()) : Prop := match l with
  | [r, s] => withI (rd δ r) fun i => withI (rd δ s) fun j => k i j δ
  | _ => False
@[simp ↓] theorem twoI_s (k : Int → Int → DEnv → Prop) (r s : Sl) : twoI k δ [r, s] = withI (rd δ r) fun i => withI (rd δ s) fun j => k i j δ := rfl
@[simp ↓] theorem iR2_s (Q : List PyData → DEnv → Prop) : iR2 ws δ Q = ws δ fun rs δ1 => twoI (fun i j δ1 => i62 i ∧ i62 j ∧ Q (rngD i (j - i).toNat) δ1) δ1 rs := by
  unfold iR2; congr; funext rs δ1
  apply propext
  constructor
  · rintro ⟨r, s, i, j, rfl, h1, h2, h3⟩; rw [twoI_s, withI_ex]; exact ⟨i, h1, by rw [withI_ex]; exact ⟨j, h2, h3⟩⟩
  · intro h
    match rs, h with
    | [r, s], h => rw [twoI_s, withI_ex] at h; obtain ⟨i, h1, h2⟩ := h; rw [withI_ex] at h2; obtain ⟨j, h2, h3⟩ := h2; exact ⟨r, s, i, j, rfl, h1, h2, h3⟩
@[simp ↓] theorem lAppend_s (i : Nat) : lAppend i w δ Q = withO δ[i]? fun _ => w δ fun r δ1 => pubK (fun r δ1 => withP r fun d => withO δ1[i]? fun ds => ds.length < 10000 ∧ Q (.pub .none) (δ1.set i (.own (ds ++ [d])))) r δ1 := by
  unfold lAppend; rw [xP_s, withO_ex]
  have : (fun (r : Sl) (δ1 : DEnv) => ∃ d ds, r = .pub d ∧ δ1[i]? = some (.own ds) ∧ ds.length < 10000 ∧ Q (.pub .none) (δ1.set i (.own (ds ++ [d])))) = fun r δ1 => withP r fun d => withO δ1[i]? fun ds => ds.length < 10000 ∧ Q (.pub .none) (δ1.set i (.own (ds ++ [d]))) := by
    funext r δ1; rw [withP_ex]; apply propext; constructor
    · rintro ⟨d, ds, h1, h2, h3⟩; exact ⟨d, h1, by rw [withO_ex]; exact ⟨ds, h2, h3⟩⟩
    · rintro ⟨d, h1, h2⟩; rw [withO_ex] at h2; obtain ⟨ds, h2, h3⟩ := h2; exact ⟨d, ds, h1, h2, h3⟩
  rw [this]
  apply propext
  constructor
  · rintro ⟨⟨es, h1⟩, h2⟩; exact ⟨es, h1, h2⟩
  · rintro ⟨es, h1, h2⟩; exact ⟨⟨es, h1⟩, h2⟩
@[simp ↓] theorem lPop_s (i : Nat) : lPop i δ Q = withO δ[i]? fun ds => withD ds[ds.length - 1]? fun d => Q (.pub d) (δ.set i (.own ds.dropLast)) := by
  unfold lPop; rw [withO_ex]
  apply propext
  constructor
  · rintro ⟨ds, d, h1, h2, h3⟩; exact ⟨ds, h1, by rw [withD_ex]; exact ⟨d, h2, h3⟩⟩
  · rintro ⟨ds, h1, h2⟩; rw [withD_ex] at h2; obtain ⟨d, h2, h3⟩ := h2; exact ⟨ds, d, h1, h2, h3⟩
def withPI (o : Sl) (f : Int → Prop) (_ : Tag f := ()) : Prop := match o with
  | .pub (.int x) => f x
  | _ => False
@[simp ↓] theorem withPI_s (x : Int) (f : Int → Prop) : withPI (.pub (.int x)) f = f x := rfl
theorem withPI_ex (o : Sl) (f : Int → Prop) : withPI o f = ∃ d, o = .pub (.int d) ∧ f d := by
  apply propext
  constructor
  · intro h
    unfold withPI at h
    split at h
    · exact ⟨_, rfl, h⟩
    · exact h.elim
  · rintro ⟨x, rfl, h⟩; exact h
@[simp ↓] theorem lPopAt_s (i : Nat) : lPopAt i w δ Q = withO δ[i]? fun _ => w δ fun r δ1 => pubK (fun r δ1 => withPI r fun j => withO δ1[i]? fun ds => ds.length ≤ 10000 ∧ withD (ixN ds.length j) fun k => withD ds[k]? fun d => Q (.pub d) (δ1.set i (.own (ds.eraseIdx k)))) r δ1 := by
  unfold lPopAt; rw [xP_s, withO_ex]
  have : (fun (r : Sl) (δ1 : DEnv) => ∃ j ds k d, r = .pub (.int j) ∧ δ1[i]? = some (.own ds) ∧ ds.length ≤ 10000 ∧ ixN ds.length j = some k ∧ ds[k]? = some d ∧ Q (.pub d) (δ1.set i (.own (ds.eraseIdx k)))) = fun r δ1 => withPI r fun j => withO δ1[i]? fun ds => ds.length ≤ 10000 ∧ withD (ixN ds.length j) fun k => withD ds[k]? fun d => Q (.pub d) (δ1.set i (.own (ds.eraseIdx k))) := by
    funext r δ1; rw [withPI_ex]; apply propext; constructor
    · rintro ⟨j, ds, k, d, h1, h2, h3, h4, h5, h6⟩
      refine ⟨j, h1, ?_⟩
      rw [withO_ex]
      refine ⟨ds, h2, h3, ?_⟩
      rw [withD_ex]
      refine ⟨k, h4, ?_⟩
      rw [withD_ex]
      exact ⟨d, h5, h6⟩
    · rintro ⟨j, h1, h2⟩
      rw [withO_ex] at h2
      obtain ⟨ds, h2, h3, h4⟩ := h2
      rw [withD_ex] at h4
      obtain ⟨k, h4, h5⟩ := h4
      rw [withD_ex] at h5
      obtain ⟨d, h5, h6⟩ := h5
      exact ⟨j, ds, k, d, h1, h2, h3, h4, h5, h6⟩
  rw [this]
  apply propext
  constructor
  · rintro ⟨⟨es, h1⟩, h2⟩; exact ⟨es, h1, h2⟩
  · rintro ⟨es, h1, h2⟩; exact ⟨⟨es, h1⟩, h2⟩
@[simp ↓] theorem gSubL_s (i : Nat) (r : Sl) (Q : DEnv → Prop) : gSubL i w r δ Q = withO δ[i]? fun _ => withD (pubD r) fun d => w δ fun s δ1 => withI (rd δ1 s) fun j => withO δ1[i]? fun ds => withD (ixN ds.length j) fun k => Q (δ1.set i (.own (ds.set k d))) := by
  have e : ∀ d, (fun (s : Sl) δ1 => ∃ j ds k, rd δ1 s = some (.int j) ∧ δ1[i]? = some (.own ds) ∧ ixN ds.length j = some k ∧ Q (δ1.set i (.own (ds.set k d)))) = fun s δ1 => withI (rd δ1 s) fun j => withO δ1[i]? fun ds => withD (ixN ds.length j) fun k => Q (δ1.set i (.own (ds.set k d))) := fun d => by
    funext s δ1; rw [withI_ex]; apply propext; constructor
    · rintro ⟨j, ds, k, h1, h2, h3, h4⟩
      refine ⟨j, h1, ?_⟩
      rw [withO_ex]
      refine ⟨ds, h2, ?_⟩
      rw [withD_ex]
      exact ⟨k, h3, h4⟩
    · rintro ⟨j, h1, h2⟩
      rw [withO_ex] at h2
      obtain ⟨ds, h2, h3⟩ := h2
      rw [withD_ex] at h3
      obtain ⟨k, h3, h4⟩ := h3
      exact ⟨j, ds, k, h1, h2, h3, h4⟩
  rw [withO_ex]
  apply propext
  constructor
  · rintro ⟨⟨es, h1⟩, d, h2, h3⟩
    refine ⟨es, h1, ?_⟩
    rw [withD_ex]
    rw [e] at h3
    exact ⟨d, h2, h3⟩
  · rintro ⟨es, h1, h2⟩
    rw [withD_ex] at h2
    obtain ⟨d, h2, h3⟩ := h2
    rw [← e] at h3
    exact ⟨⟨es, h1⟩, d, h2, h3⟩
@[simp ↓] theorem sAug_s (f : O2) (i : Nat) (D : DEnds) : sAug f i w D δ = withP ((δ[i]?).getD .emp) fun d => w δ fun r δ1 => withD (rd δ1 r) fun y => f d y fun s => gN i s δ1 D.nx := by
  unfold sAug; rw [withP_ex]
  have e : ∀ d, (fun (r : Sl) (δ1 : DEnv) => ∃ y, rd δ1 r = some y ∧ f d y fun s => gN i s δ1 D.nx) = fun r δ1 => withD (rd δ1 r) fun y => f d y fun s => gN i s δ1 D.nx := fun d => by
    funext r δ1; rw [withD_ex]
  apply propext
  constructor
  · rintro ⟨d, h1, h2⟩; rw [e] at h2; exact ⟨d, by rw [h1]; rfl, h2⟩
  · rintro ⟨d, h1, h2⟩; rw [← e] at h2
    refine ⟨d, ?_, h2⟩
    cases h : δ[i]? with
    | none => rw [h] at h1; cases h1
    | some s => rw [h] at h1; exact congrArg some h1
@[simp ↓] theorem pS_s (Q : Option Int → DEnv → Prop) : pS w δ Q = w δ fun r δ1 => withI (rd δ1 r) fun i => Q (some i) δ1 := by simp only [pS, withI_ex]
@[simp ↓] theorem xSl_s (wl wh : DO) : xSl w wl wh δ Q = w δ fun r δ1 => wl δ1 fun lo δ2 => wh δ2 fun hi δ3 => withD (rd δ3 r) fun x => slD lo hi x fun s => Q s δ3 := by simp only [xSl, withD_ex]
@[simp] theorem oIx_l (ds : List PyData) (i : Int) (k : Sl → Prop) : oIx (.list ds) (.int i) k = withD (atI ds i) fun d => k (.pub d) := by rw [withD_ex]; rfl
@[simp] theorem oIx_t (ds : List PyData) (i : Int) (k : Sl → Prop) : oIx (.tuple ds) (.int i) k = withD (atI ds i) fun d => k (.pub d) := by rw [withD_ex]; rfl
end
/-! operators, case by case -/
section
variable (a b : Int) (s z : Str) (l m : List PyData) (d e : PyData) (k : Sl → Prop) (δ : DEnv)
@[simp ↓] theorem oAdd_i : oAdd (.int a) (.int b) k = k (.pub (.int (a + b))) := rfl
@[simp ↓] theorem oAdd_s : oAdd (.str s) (.str z) k = (s.length + z.length ≤ sizeLine ∧ k (.pub (.str (s ++ z)))) := rfl
@[simp ↓] theorem oAdd_l : oAdd (.list l) (.list m) k = (l.length + m.length ≤ 10000 ∧ k (.own (l ++ m))) := rfl
@[simp ↓] theorem oAdd_t : oAdd (.tuple l) (.tuple m) k = (l.length + m.length ≤ 10000 ∧ k (.pub (.tuple (l ++ m)))) := rfl
@[simp ↓] theorem oAddI_i : oAddI (.int a) (.int b) k = k (.pub (.int (a + b))) := rfl
@[simp ↓] theorem oAddI_s : oAddI (.str s) (.str z) k = (s.length + z.length ≤ sizeLine ∧ k (.pub (.str (s ++ z)))) := rfl
@[simp ↓] theorem oSub_i : oSub (.int a) (.int b) k = k (.pub (.int (a - b))) := rfl
@[simp ↓] theorem oMul_i : oMul (.int a) (.int b) k = (CMul a b ∧ k (.pub (.int (a * b)))) := rfl
@[simp ↓] theorem oMul_l : oMul (.list l) (.int b) k = (-(2 ^ 63) ≤ b ∧ b < 2 ^ 63 ∧ l.length * b.toNat ≤ 10000 ∧ k (.own (List.replicate b.toNat l).flatten)) := rfl
@[simp ↓] theorem oDiv_i : oDiv (.int a) (.int b) k = (CDiv a b ∧ k (.pub (.int (a / b)))) := rfl
@[simp ↓] theorem oMod_i : oMod (.int a) (.int b) k = (0 < b ∧ k (.pub (.int (a % b)))) := rfl
@[simp ↓] theorem oPow_i : oPow (.int a) (.int b) k = (CPow a b ∧ k (.pub (.int (a ^ b.toNat)))) := rfl
@[simp ↓] theorem oLt_i : oLt (.int a) (.int b) k = k (.pub (.bool (decide (a < b)))) := rfl
@[simp ↓] theorem oLe_i : oLe (.int a) (.int b) k = k (.pub (.bool (decide (a ≤ b)))) := rfl
@[simp ↓] theorem oGt_i : oGt (.int a) (.int b) k = k (.pub (.bool (decide (b < a)))) := rfl
@[simp ↓] theorem oGe_i : oGe (.int a) (.int b) k = k (.pub (.bool (decide (b ≤ a)))) := rfl
@[simp ↓] theorem oEq_i : oEq (.int a) (.int b) k = k (.pub (.bool (a == b))) := by
  have h : ∀ x : Int, eqOk (.int x) := fun x => ⟨rfl, by simp [SeqAt.shaped, PyData.canLay0, PyData.depth]⟩
  show (eqOk _ ∧ eqOk _ ∧ k (.pub (.bool (PyData.eqv _ _)))) = _
  simp [h, PyData.eqv]
@[simp ↓] theorem oEq_s : oEq (.str s) (.str z) k = k (.pub (.bool (s == z))) := rfl
@[simp ↓] theorem oNe_i : oNe (.int a) (.int b) k = k (.pub (.bool (!(a == b)))) := by
  have h : ∀ x : Int, eqOk (.int x) := fun x => ⟨rfl, by simp [SeqAt.shaped, PyData.canLay0, PyData.depth]⟩
  show (eqOk _ ∧ eqOk _ ∧ k (.pub (.bool (!PyData.eqv _ _)))) = _
  simp [h, PyData.eqv]
@[simp ↓] theorem oNe_s : oNe (.str s) (.str z) k = k (.pub (.bool (!(s == z)))) := rfl
@[simp ↓] theorem oEq_l : oEq (.list l) e k = (eqOk (.list l) ∧ eqOk e ∧ k (.pub (.bool (PyData.eqv (.list l) e)))) := rfl
@[simp ↓] theorem oEq_t : oEq (.tuple l) e k = (eqOk (.tuple l) ∧ eqOk e ∧ k (.pub (.bool (PyData.eqv (.tuple l) e)))) := rfl
@[simp ↓] theorem oNe_l : oNe (.list l) e k = (eqOk (.list l) ∧ eqOk e ∧ k (.pub (.bool (!PyData.eqv (.list l) e)))) := rfl
@[simp ↓] theorem oNe_t : oNe (.tuple l) e k = (eqOk (.tuple l) ∧ eqOk e ∧ k (.pub (.bool (!PyData.eqv (.tuple l) e)))) := rfl
@[simp ↓] theorem oIn_l : oIn d (.list l) k = (flatD d = true ∧ l.all flatD = true ∧ k (.pub (.bool (inD d l)))) := by cases d <;> rfl
@[simp ↓] theorem oIn_t : oIn d (.tuple l) k = (flatD d = true ∧ l.all flatD = true ∧ k (.pub (.bool (inD d l)))) := by cases d <;> rfl
@[simp ↓] theorem oNotIn_l : oNotIn d (.list l) k = (flatD d = true ∧ l.all flatD = true ∧ k (.pub (.bool (!inD d l)))) := by cases d <;> rfl
@[simp ↓] theorem oNotIn_t : oNotIn d (.tuple l) k = (flatD d = true ∧ l.all flatD = true ∧ k (.pub (.bool (!inD d l)))) := by cases d <;> rfl
@[simp ↓] theorem oIs_n : oIs d .none k = k (.pub (.bool (isN d))) := by cases d <;> rfl
@[simp ↓] theorem oIsNot_n : oIsNot d .none k = k (.pub (.bool (!isN d))) := by cases d <;> rfl
@[simp ↓] theorem fLen_l : fLen (.list l) k = k (.pub (.int (l.length : Int))) := rfl
@[simp ↓] theorem fLen_t : fLen (.tuple l) k = k (.pub (.int (l.length : Int))) := rfl
@[simp ↓] theorem fLen_s : fLen (.str s) k = (s.length ≤ sizeLine ∧ k (.pub (.int (s.length : Int)))) := rfl
@[simp ↓] theorem fList_l : fList (.list l) k = k (.own l) := rfl
@[simp ↓] theorem fList_t : fList (.tuple l) k = k (.own l) := rfl
@[simp ↓] theorem fTuple_l : fTuple (.list l) k = k (.pub (.tuple l)) := rfl
@[simp ↓] theorem fTuple_t : fTuple (.tuple l) k = k (.pub (.tuple l)) := rfl
@[simp ↓] theorem fAbs_i : fAbs (.int a) k = k (.pub (.int (if a < 0 then -a else a))) := rfl
@[simp ↓] theorem fInt_i : fInt (.int a) k = k (.pub (.int a)) := rfl
@[simp ↓] theorem fInt_b (b : Bool) : fInt (.bool b) k = k (.pub (.int (if b then 1 else 0))) := rfl
@[simp ↓] theorem fMax2_i : fMax2 (.int a) (.int b) k = k (.pub (.int (max a b))) := rfl
@[simp ↓] theorem fMin2_i : fMin2 (.int a) (.int b) k = k (.pub (.int (min a b))) := rfl
@[simp ↓] theorem slD_l (lo hi : Option Int) : slD lo hi (.list l) k = k (.own (cutD l lo hi)) := rfl
@[simp ↓] theorem slD_t (lo hi : Option Int) : slD lo hi (.tuple l) k = k (.pub (.tuple (cutD l lo hi))) := rfl
@[simp ↓] theorem rd_pub : rd δ (.pub d) = some d := rfl
@[simp ↓] theorem rd_own : rd δ (.own l) = some (.list l) := rfl
def rdV : Option Sl → Option PyData
  | some (.own ds) => some (.list ds)
  | some (.pub d) => some d
  | _ => none
@[simp ↓] theorem rdV_own : rdV (some (.own l)) = some (.list l) := rfl
@[simp ↓] theorem rdV_pub : rdV (some (.pub d)) = some d := rfl
@[simp ↓] theorem rd_var (i : Nat) : rd δ (.var i) = rdV δ[i]? := by unfold rd rdV; rfl
@[simp ↓] theorem pubD_pub : pubD (.pub d) = some d := rfl
@[simp ↓] theorem pubD_own : pubD (.own l) = some (.list l) := rfl
def pbV (δ : DEnv) (i : Nat) : Option Sl → DEnv
  | some (.own ds) => δ.set i (.pub (.list ds))
  | _ => δ
@[simp ↓] theorem pbV_own (i : Nat) : pbV δ i (some (.own l)) = δ.set i (.pub (.list l)) := rfl
@[simp ↓] theorem pbV_pub (i : Nat) : pbV δ i (some (.pub d)) = δ := rfl
@[simp ↓] theorem pbV_supn (i n : Nat) : pbV δ i (some (.supn n)) = δ := rfl
@[simp ↓] theorem pbV_dto (i : Nat) (n : List (Int × Int)) : pbV δ i (some (.dto n)) = δ := rfl
@[simp ↓] theorem pbV_sup (i : Nat) : pbV δ i (some .sup) = δ := rfl
@[simp ↓] theorem pbV_emp (i : Nat) : pbV δ i (some .emp) = δ := rfl
@[simp ↓] theorem pb_s (i : Nat) : pb δ i = pbV δ i δ[i]? := by unfold pb pbV; rfl
@[simp ↓] theorem okArg_pub : okArg (.pub d) = true := rfl
@[simp ↓] theorem okArg_sup : okArg .sup = true := rfl
@[simp ↓] theorem noVar_pub : noVar (.pub d) = true := rfl
@[simp ↓] theorem noVar_supn (n : Nat) : noVar (.supn n) = true := rfl
@[simp ↓] theorem noVar_sup : noVar .sup = true := rfl
@[simp ↓] theorem noVar_own : noVar (.own l) = true := rfl
end
def hid1 : Sl → Sl
  | .own _ => .emp
  | .supn _ => .emp
  | .dto _ => .emp
  | s => s
@[simp] theorem hid1_pub (d : PyData) : hid1 (.pub d) = .pub d := rfl
@[simp] theorem hid1_own (d : List PyData) : hid1 (.own d) = .emp := rfl
@[simp] theorem hid1_supn (n : Nat) : hid1 (.supn n) = .emp := rfl
@[simp] theorem hid1_dto (n : List (Int × Int)) : hid1 (.dto n) = .emp := rfl
@[simp] theorem hid1_sup : hid1 .sup = .sup := rfl
@[simp] theorem hid1_emp : hid1 .emp = .emp := rfl
@[simp] theorem hid_nil : hid [] = [] := rfl
@[simp] theorem hid_cons (s : Sl) (δ : DEnv) : hid (s :: δ) = hid1 s :: hid δ := by cases s <;> rfl
/-! what is not yet known is left alone -/
def callS (f : DF) (rs : List Sl) (k : Sl → Prop) (_ : Tag k := ()) : Prop := f rs k
@[simp ↓] theorem xCall_s (f : DF) (ws : DA) (δ : DEnv) (Q : Sl → DEnv → Prop) : xCall f ws δ Q = ws δ fun rs δ1 => rs.all okArg = true ∧ callS f rs fun r => Q r δ1 := rfl
/-! reasoning over data -/
theorem i62_of {i : Int} (h1 : -1000000000000 ≤ i) (h2 : i ≤ 1000000000000) : i62 i := ⟨by omega, by omega⟩
theorem lcGo_map {α : Type} {g : DG} {tt : DT} {te : DE} {δ : DEnv} (e : α → PyData) (E : α → DEnv) (p : α → Bool) (f : α → PyData) : ∀ (xs : List α) (acc : List PyData) {Q : List PyData → Prop}, (∀ x ∈ xs, ∀ k, k (E x) → g (.pub (e x)) δ k) → (∀ x ∈ xs, ∀ k, k (p x) (E x) → tt (E x) k) →
    (∀ x ∈ xs, p x = true → ∀ k : Sl → DEnv → Prop, k (.pub (f x)) (E x) → te (E x) k) → Q (acc ++ (xs.filter p).map f) → lcGo g tt te δ (xs.map e) acc Q
  | [], acc, Q, _, _, _, q => by
    show Q acc
    simpa using q
  | x :: xs, acc, Q, hg, ht, he, q => by
    rw [List.map_cons]
    unfold lcGo
    refine hg x List.mem_cons_self _ (ht x List.mem_cons_self _ ⟨rfl, ?_⟩)
    have ih := fun acc' => lcGo_map (g := g) (tt := tt) (te := te) (δ := δ) e E p f xs acc' (Q := Q) (fun y hy => hg y (List.mem_cons_of_mem _ hy)) (fun y hy => ht y (List.mem_cons_of_mem _ hy)) (fun y hy => he y (List.mem_cons_of_mem _ hy))
    cases hp : p x with
    | true =>
      rw [if_pos rfl]
      refine he x List.mem_cons_self hp _ ⟨rfl, f x, rfl, ih _ ?_⟩
      rw [List.filter_cons_of_pos hp] at q
      simpa using q
    | false =>
      rw [if_neg (by decide)]
      refine ih _ ?_
      rw [List.filter_cons_of_neg (by rw [hp]; decide)] at q
      exact q
/-- no test -/
theorem lcGo_all {α : Type} {g : DG} {te : DE} {δ : DEnv} (e : α → PyData) (E : α → DEnv) (f : α → PyData) (xs : List α) {Q : List PyData → Prop} (hg : ∀ x ∈ xs, ∀ k, k (E x) → g (.pub (e x)) δ k)
    (he : ∀ x ∈ xs, ∀ k : Sl → DEnv → Prop, k (.pub (f x)) (E x) → te (E x) k) (q : Q (xs.map f)) : lcGo g tYes' te δ (xs.map e) [] Q :=
  lcGo_map e E (fun _ => true) f xs [] hg (fun _ _ _ h => h) (fun x hx _ => he x hx) (by rw [List.filter_eq_self.mpr (fun _ _ => rfl)]; simpa using q)
theorem forGo_inv {α : Type} {g : DG} {b : DS} {D : DEnds} (e : α → PyData) (I : List α → DEnv → Prop) (hs : ∀ x xs δ (N : DEnv → Prop), (∀ δ', I xs δ' → N δ') → I (x :: xs) δ → g (.pub (e x)) δ fun δ1 => b { D with nx := N, ct := N, bk := D.nx } δ1) (he : ∀ δ, I [] δ → D.nx δ) : ∀ xs δ, I xs δ → forGo g b D (xs.map e) δ
  | [], δ, h => he δ h
  | x :: xs, δ, h => by
    rw [List.map_cons]
    unfold forGo
    exact hs x xs δ _ (fun δ' h' => forGo_inv e I hs he xs δ' h') h
theorem rng_eq (lo : Int) (n : Nat) : rngD lo n = (List.range n).map fun (i : Nat) => PyData.int (lo + (i : Int)) := rfl
/-- a loop whose invariant does not count -/
theorem forGo_any {g : DG} {b : DS} {D : DEnds} (I : DEnv → Prop) : ∀ (xs : List PyData) (δ : DEnv), (∀ x ∈ xs, ∀ δ (N : DEnv → Prop), (∀ δ', I δ' → N δ') → I δ → g (.pub x) δ fun δ1 => b { D with nx := N, ct := N, bk := D.nx } δ1) → (∀ δ, I δ → D.nx δ) → I δ → forGo g b D xs δ
  | [], δ, _, he, h => he δ h
  | x :: xs, δ, hs, he, h => by
    unfold forGo
    exact hs x List.mem_cons_self δ _ (fun δ' h' => forGo_any I xs δ' (fun y hy => hs y (List.mem_cons_of_mem _ hy)) he h') h
theorem whGo_inv {c : DT} {b : DS} {D : DEnds} (I : DEnv → Prop) (μ : DEnv → Nat) (hs : ∀ δ (N : DEnv → Prop), I δ → (∀ δ', I δ' → μ δ' < μ δ → N δ') → c δ fun k δ1 => if k = true then b { D with nx := N, ct := N, bk := D.nx } δ1 else D.nx δ1) : ∀ n δ, I δ → μ δ < n → whGo c b D n δ
  | 0, _, _, h => absurd h (Nat.not_lt_zero _)
  | n + 1, δ, h, hn => by
    unfold whGo
    exact hs δ _ h fun δ' h' hl => whGo_inv I μ hs n δ' h' (by omega)
/-! what == and repr ask -/
@[simp] theorem eqv_int (a b : Int) : PyData.eqv (.int a) (.int b) = (a == b) := by simp [PyData.eqv]
@[simp] theorem eqv_str (a b : Str) : PyData.eqv (.str a) (.str b) = (a == b) := by simp [PyData.eqv]
@[simp] theorem eqOk_int (a : Int) : eqOk (.int a) := ⟨rfl, by simp [SeqAt.shaped, PyData.canLay0, PyData.depth]⟩
theorem eqOk_str {a : Str} (h : PyData.strOk a = true) : eqOk (.str a) := ⟨rfl, by simp [SeqAt.shaped, PyData.canLay0, PyData.depth, h]⟩
@[simp] theorem eqOk_none : eqOk .none := ⟨rfl, by simp [SeqAt.shaped, PyData.canLay0, PyData.depth]⟩
@[simp] theorem eqOk_bool (b : Bool) : eqOk (.bool b) := ⟨rfl, by simp [SeqAt.shaped, PyData.canLay0, PyData.depth]⟩
theorem FineQ.repr {d : PyData} {n B : Nat} (h : FineQ d n B) (h1 : n ≤ 60) (h2 : B ≤ sizeLine) {k : Sl → Prop} (q : k (.pub (.str d.shown))) : fRepr d k := ⟨h.sh, Nat.le_trans h.dp h1, Nat.le_trans h.sz h2, q⟩
theorem FineQ.int {i : Int} (h : i.natAbs < 10 ^ 13) : FineQ (.int i) 0 14 := (FineD.int h).q
theorem FineQ.ints {ns : List Int} (hl : ns.length ≤ 60) (h : ∀ k ∈ ns, k.natAbs < 10 ^ 13) : FineQ (tupI ns) 1 1000 := (fine_row hl h).q
/-- items of lists of ints -/
@[simp] theorem atI_ints (ns : List Int) (i : Int) : atI (ns.map PyData.int) i = (atI ns i).map PyData.int := by
  unfold atI
  rw [List.length_map]
  cases ixN ns.length i <;> simp
theorem atI_of {α : Type} {xs : List α} {j : Nat} (h : j < xs.length) : atI xs (j : Int) = some xs[j] := atI_nat (List.getElem?_eq_getElem h)
theorem inD_ints (z : Int) (ns : List Int) : inD (.int z) (ns.map PyData.int) = decide (z ∈ ns) := by
  unfold inD
  induction ns with
  | nil => rfl
  | cons n ns ih =>
    rw [List.map_cons, List.any_cons, ih]
    by_cases h : n = z
    · subst h; simp
    · have h2 : ¬ z = n := fun q => h q.symm
      simp [h, h2]
@[simp] theorem flat_ints' (ns : List Int) : (ns.map PyData.int).all flatD = true := by simp
theorem cutD_ints (ns : List Int) (lo hi : Option Int) : cutD (ns.map PyData.int) lo hi = ((ns.drop (HT.sIx ns.length 0 lo)).take (HT.sIx ns.length ns.length hi - HT.sIx ns.length 0 lo)).map PyData.int := by
  unfold cutD; rw [List.length_map, ← List.map_drop, ← List.map_take]
theorem cutD_to (ns : List Int) (j : Nat) : cutD (ns.map PyData.int) none (some (j : Int)) = (ns.take j).map PyData.int := by
  rw [cutD_ints, HT.sIx_none, HT.sIx_nat]; simp
theorem cutD_from (ns : List Int) (j : Nat) : cutD (ns.map PyData.int) (some (j : Int)) none = (ns.drop j).map PyData.int := by
  rw [cutD_ints, HT.sIx_none, HT.sIx_nat]
  congr 1
  rcases Nat.lt_or_ge j ns.length with h | h
  · rw [Nat.min_eq_left (Nat.le_of_lt h), List.take_of_length_le (by simp)]
  · rw [Nat.min_eq_right h, List.drop_eq_nil_of_le h, List.drop_eq_nil_of_le (Nat.le_refl _)]; simp
end DX

namespace DX
open PySem PySem.Spec L2 KX
open PyProof.Rows hiding St
section
variable {X : Cx} {F : Fam} {e tg : Expr} {wa wb : DE} {pos : Pos}
/-! xs[a:b] = ys -/
def tgSl (to : TE) (tl th : TO) : TG := fun v σ H Q => to σ H fun x H1 => tl σ H1 fun l H2 => th σ H2 fun u H3 => ∃ p b xs ys a c, x = .ref p ∧ v = .ref b ∧ l = some a ∧ u = some c ∧ H3 p = some (.lst xs) ∧ H3 b = some (.lst ys) ∧ p ≠ b ∧ 0 ≤ a ∧ a ≤ c ∧ c ≤ xs.length ∧ xs.length + ys.length ≤ sizeLine ∧ Q σ (upd H3 p (.lst (xs.take a.toNat ++ ys ++ xs.drop c.toNat)))
theorem pg_slice {o : Expr} {lo hi : Option Expr} {to : TE} {tl th : TO} {p2 : Pos} (ho : PE X o to) (hl : PO X lo tl) (hu : PO X hi th)
    (ha : ∀ v, assign (.Subscript o (.Slice lo hi none p2) pos) X.env v = (do
      let ov ← holding [v] (eval o X.env)
      let iv ← holding [v, ov] (eval (.Slice lo hi none p2) X.env)
      standAt pos
      holding [v, ov, iv] (setItem ov iv v)
      release [iv, v, ov] []) := by intro _; rfl) : PG X (.Subscript o (.Slice lo hi none p2) pos) (tgSl to tl th) := by
  refine ⟨fun pins s σ H v u Q I r h => ?_⟩
  rw [ha]
  refine wpAny_bind (wpAny_holding (thn (ho.run pins s σ H _ I h) fun ov s1 ⟨x, H1, I1, r1, q1⟩ => ?_))
  refine wpAny_bind (wpAny_holding (wpAny_Slice (thn (hl.run pins s1 σ H1 _ I1 q1) fun vl s2 ⟨l, H2, I2, pl, q2⟩ => thn (hu.run pins s2 σ H2 _ I2 q2) fun vu s3 ⟨u', H3, I3, pu, q3⟩ => ?_)))
  rw [evalPart_none]
  refine wpAny_pure ?_
  obtain ⟨p, b, xs, ys, a, c, rfl, rfl, rfl, rfl, hp, hb, hne, h0, hac, hc, hz, hQ⟩ := q3
  cases r1
  cases r
  have I4 : Inv X pins σ H3 { s3 with heap := s3.heap.push { cls := .type "slice", data := .fields #[vl, vu, .none] } } := I3.kept (t' := s3.toks) fun b ob q => Heap.get?_push_of_some _ q
  have ra : RelV (.int a) vl := by cases pl with | int i t => exact ⟨t, rfl⟩
  have rc : RelV (.int c) vu := by cases pu with | int i t => exact ⟨t, rfl⟩
  refine wpAny_bind (wpAny_standAt (wpAny_bind (wpAny_holding (set_slice I4 hp hb hne (Heap.IsSliceOf.new ..) ra rc h0 hac hc hz fun s' I5 => ?_))))
  exact wpAny_release ⟨σ, _, I5, hQ⟩
def listOf : Sl → Option (List PyData)
  | .own ds => some ds
  | .pub (.list ds) => some ds
  | _ => none
@[simp ↓] theorem listOf_own (ds : List PyData) : listOf (.own ds) = some ds := rfl
@[simp ↓] theorem listOf_pub (ds : List PyData) : listOf (.pub (.list ds)) = some ds := rfl
def gSliceL (i : Nat) (wl wh : DO) (r : Sl) (δ : DEnv) (Q : DEnv → Prop) : Prop := (∃ es, δ[i]? = some (.own es)) ∧ ∃ ys, listOf r = some ys ∧ wl δ fun lo δ1 => wh δ1 fun hi δ2 => ∃ a c ds, lo = some a ∧ hi = some c ∧ δ2[i]? = some (.own ds) ∧ 0 ≤ a ∧ a ≤ c ∧ c ≤ ds.length ∧ ds.length + ys.length ≤ 10000 ∧ Q (δ2.set i (.own (ds.take a.toNat ++ ys ++ ds.drop c.toNat)))
theorem d_gslice {i : Nat} {x : Str} {lo hi : Option Expr} {wl wh : DO} {px p2 : Pos} (hN : X.N[i]? = some x) (hl : PO X lo (lO F X.K wl)) (hu : PO X hi (lO F X.K wh)) (hv : Vis X.env.scope x := by first | exact Or.inl rfl | exact Or.inr (Or.inl rfl) | exact Or.inr (Or.inr rfl))
    (hd : (x == ("__debug__" : Str)) = false := by decide) (hcd : (x == ("__classdict__" : Str)) = false := by decide)
    (ha : ∀ v, assign (.Subscript (.Name x px) (.Slice lo hi none p2) pos) X.env v = (do
      let ov ← holding [v] (eval (.Name x px) X.env)
      let iv ← holding [v, ov] (eval (.Slice lo hi none p2) X.env)
      standAt pos
      holding [v, ov, iv] (setItem ov iv v)
      release [iv, v, ov] []) := by intro _; rfl) : PG X (.Subscript (.Name x px) (.Slice lo hi none p2) pos) (lG F X.K true (gSliceL i wl wh)) := PG.imp (pg_slice (pe_var hN hv hd hcd) hl hu ha) fun v σ H Q ⟨C, δ, U, k, r, e1, e2, en, o, hg, q⟩ => by
  obtain ⟨⟨es, hes⟩, ys, hr, w⟩ := hg
  obtain ⟨a, vs, h1, h2, h3⟩ := en.own hes
  obtain ⟨U0, s0, en0, ho⟩ := hold_of en (rsB_ok o)
  have dv : Dd C.K U0 v (.list ys) := by
    cases r with
    | own ds => cases hr; exact ho
    | pub d => cases d <;> cases hr; exact ho
    | _ => cases hr
  refine ⟨_, h1, C, δ, U0, _, e1, e2, en0, w, fun l δ1 hk H1 U1 s1 en1 => ?_⟩
  refine ⟨C, δ1, U1, _, e1, e2, en1, hk, fun u δ2 hk2 H2 U2 s2 en2 => ?_⟩
  obtain ⟨a', c, ds, rfl, rfl, hi', h0, hac, hc, hz, hk2⟩ := hk2
  obtain ⟨a2, us, g1, g2, g3⟩ := en2.own hi'
  rw [h1] at g1
  cases g1
  have dv2 := Dd.same (s1.trans s2) dv
  cases dv2 with
  | @lst b zs _ hb hall =>
    obtain ⟨o2, k1, k2⟩ := en2.sl i _ hi'
    rw [h1] at k1
    cases k1
    obtain ⟨b', zb, _, hub, _⟩ := k2
    cases zb
    have hne : a ≠ b := fun z => by subst z; rw [hub] at hb; cases hb
    refine ⟨a, b, us, zs, a', c, rfl, rfl, rfl, rfl, g2, en2.wd.sub _ _ hb, hne, h0, hac, by rw [g3.len]; exact hc, by rw [g3.len, hall.len]; exact line10 hz, ?_⟩
    exact q _ hk2 _ _ U2 (s0.trans (s1.trans s2)) (en2.putOwn hi' h1 (((g3.take _).app hall).app (g3.drop _)))
def withA (o : Option Int) (f : Int → Prop) (_ : Tag f := ()) : Prop := match o with
  | some x => f x
  | none => False
@[simp ↓] theorem withA_s (x : Int) (f : Int → Prop) : withA (some x) f = f x := rfl
@[simp ↓] theorem gSliceL_s (i : Nat) (wl wh : DO) (r : Sl) (δ : DEnv) (Q : DEnv → Prop) : gSliceL i wl wh r δ Q = withO δ[i]? fun _ => withD (listOf r) fun ys => wl δ fun lo δ1 => wh δ1 fun hi δ2 => withA lo fun a => withA hi fun c => withO δ2[i]? fun ds => 0 ≤ a ∧ a ≤ c ∧ c ≤ ds.length ∧ ds.length + ys.length ≤ 10000 ∧ Q (δ2.set i (.own (ds.take a.toNat ++ ys ++ ds.drop c.toNat))) := by
  have e : ∀ ys : List PyData, (fun (lo : Option Int) (δ1 : DEnv) => wh δ1 fun hi δ2 => ∃ a c ds, lo = some a ∧ hi = some c ∧ δ2[i]? = some (.own ds) ∧ 0 ≤ a ∧ a ≤ c ∧ c ≤ ds.length ∧ ds.length + ys.length ≤ 10000 ∧ Q (δ2.set i (.own (ds.take a.toNat ++ ys ++ ds.drop c.toNat)))) =
      fun lo δ1 => wh δ1 fun hi δ2 => withA lo fun a => withA hi fun c => withO δ2[i]? fun ds => 0 ≤ a ∧ a ≤ c ∧ c ≤ ds.length ∧ ds.length + ys.length ≤ 10000 ∧ Q (δ2.set i (.own (ds.take a.toNat ++ ys ++ ds.drop c.toNat))) := fun ys => by
    funext lo δ1; congr; funext hi δ2; apply propext; constructor
    · rintro ⟨a, c, ds, rfl, rfl, h, h2⟩; rw [withA_s, withA_s, h, withO_some]; exact h2
    · intro h
      cases lo with
      | none => exact h.elim
      | some a =>
        cases hi with
        | none => exact h.elim
        | some c =>
          rw [withA_s, withA_s, withO_ex] at h
          obtain ⟨ds, h1, h2⟩ := h
          exact ⟨a, c, ds, rfl, rfl, h1, h2⟩
  unfold gSliceL
  rw [withO_ex]
  apply propext
  constructor
  · rintro ⟨⟨es, h1⟩, ys, h2, h3⟩; rw [e] at h3; exact ⟨es, h1, by rw [withD_ex]; exact ⟨ys, h2, h3⟩⟩
  · rintro ⟨es, h1, h2⟩; rw [withD_ex] at h2; obtain ⟨ys, h2, h3⟩ := h2; rw [← e] at h3; exact ⟨⟨es, h1⟩, ys, h2, h3⟩
/-! pairs: zip, enumerate -/
theorem walk_pair {C : Ct} {U0 : Hp} {J : It} {G : Hp → Prop} {n : Nat} {xs : List PyData} {fx fy : Nat → Option V} (w : Walk J n G (YPair fx fy)) (hn : xs.length = n) (hG : ∀ H U, Same U0 U → Same U H → G H)
    (hd : ∀ i x y, i < n → fx i = some x → fy i = some y → ∃ d e, xs[i]? = some (.tuple [d, e]) ∧ Dd C.K U0 x d ∧ Dd C.K U0 y e) : WalkD false C U0 J xs := by
  refine ⟨G, _, hn ▸ w, hG, fun i H U v H' wd s hi y => ?_⟩
  obtain ⟨T, x, y, rfl, hT, rfl, h1, h2⟩ := y
  obtain ⟨d, e, h3, h4, h5⟩ := hd i x y (hn ▸ hi) h1 h2
  have x2 : ExtK C H U (upd H T (.tup [x, y])) (upd U T (.tup [x, y])) := Ext.pub wd hT
  exact ⟨_, _, x2, h3, .inr ⟨rfl, _, _, _, rfl, rfl, SqT.of upd_same, .cons (Dd.same (s.trans x2.us) h4) (.cons (Dd.same (s.trans x2.us) h5) .nil)⟩⟩
theorem pairs_len : ∀ (ds : List PyData) (n : Nat), (pairs n ds).length = ds.length
  | [], _ => rfl
  | _ :: ds, n => congrArg (· + 1) (pairs_len ds (n + 1))
theorem pairs_get : ∀ (ds : List PyData) (n i : Nat), (pairs n ds)[i]? = ds[i]?.map fun d => .tuple [.int ((n + i : Nat) : Int), d]
  | [], n, i => by simp [pairs]
  | d :: ds, n, 0 => by simp [pairs]
  | d :: ds, n, i + 1 => by
    show (pairs (n + 1) ds)[i]? = _
    rw [pairs_get ds (n + 1) i, List.getElem?_cons_succ]
    rw [show n + 1 + i = n + (i + 1) by omega]
theorem walk_enumT {K : PySem.W.Frag} {a : Addr} {xs : List V} : Walk (IteT K a) xs.length (fun H => SqT K H a xs) (YPair (fun i => some (.int (i : Nat))) (fun i => xs[i]?)) := by
  refine ⟨fun i _ hi q => ⟨xs, xs[i], q, by simp [hi]⟩, fun _ q => ⟨xs, q, rfl⟩, fun i H v H' _ q y => ?_⟩
  obtain ⟨T, x, h1, h2, h3, h4⟩ := y
  exact ⟨T, .int (i : Nat), x, h1, h2, h3, rfl, h4 xs q⟩
def iEnumA (K : PySem.W.Frag) (ta : TA) : TI := fun σ H R => ta σ H fun vs H1 => ∃ a xs, vs = [.ref a] ∧ ((SqL K H1 a xs ∧ R (Ite K a) H1) ∨ (SqT K H1 a xs ∧ R (IteT K a) H1))
theorem pi_enumA {ta : TA} {p tpos : Pos} {elts : List Expr} {kk : Nat} (hg : Gl X "enumerate") (hm : X.mg "enumerate" = none) (ha : PA X [e] ta) (hs : starEach [e] X.env = [(false, eval e X.env)] := by rfl) :
    PI X (.Tuple elts kk tpos) (.Call (.Name "enumerate" p) [e] [] pos) (iEnumA X.K ta) := by
  refine ⟨fun pins s σ H R I h => ?_⟩
  refine Call_ (ld_blt I hg hm boot_enumerate (PyProof.Rows.callWith_type1 (thn (ha.run pos pins s σ H _ I h) fun us s1 ⟨vs, H1, I1, r1, q1⟩ => ?_) hs rfl))
  obtain ⟨a, xs, ex, q1⟩ := q1
  subst ex
  obtain ⟨u, rfl, ru⟩ := vals1 r1
  obtain rfl : u = Value.ref a := ru
  have fr : ∀ b ∈ [s1.heap.objs.size + 1, s1.heap.objs.size], FpOk X pins H1 b := fun b hb => by
    have hle : s1.heap.objs.size ≤ b := by
      rcases List.mem_cons.mp hb with z | z
      · rw [z]; exact Nat.le_succ _
      · rw [List.mem_singleton.mp z]; exact Nat.le_refl _
    exact I1.fpOk hle (I1.hok.fresh hle)
  rcases q1 with ⟨hq, q⟩ | ⟨hq, q⟩
  · obtain ⟨its, rv, p', hz⟩ := I1.list hq
    refine call_enumerate_list p'.isList fun h' he hit hsz hk => wpAny_pyIter_enum he ?_
    have I2 : Inv X pins σ H1 { s1 with heap := h' } := I1.kept (t' := s1.toks) hk
    exact ⟨s1.heap.objs.size + 1, [s1.heap.objs.size + 1, s1.heap.objs.size], _, _, H1, rfl, I2, turn_enum a (s1.heap.objs.size + 1) s1.heap.objs.size, ⟨⟨.none, he⟩, hit, Nat.succ_ne_self _⟩, fr, q⟩
  · obtain ⟨its, rv, tp, hz⟩ := I1.tuple hq
    refine enumCall (PySem.begins_tuple a its.toArray) tp fun h' he hit hk => wpAny_pyIter_enum he ?_
    have I2 : Inv X pins σ H1 { s1 with heap := h' } := I1.kept (t' := s1.toks) hk
    exact ⟨s1.heap.objs.size + 1, [s1.heap.objs.size + 1, s1.heap.objs.size], _, _, H1, rfl, I2, turnT a (s1.heap.objs.size + 1) s1.heap.objs.size, ⟨⟨.none, he⟩, ⟨_, hit, rfl, rfl⟩, Nat.succ_ne_self _⟩, fr, q⟩
theorem di_en {p tpos : Pos} {elts : List Expr} {kk : Nat} (hg : Gl X "enumerate") (hm : X.mg "enumerate" = none) (ha : PE X e (lE F X.K wa)) (hs : starEach [e] X.env = [(false, eval e X.env)] := by rfl) (hs0 : starEach [e] X.env = (false, eval e X.env) :: starEach [] X.env := by rfl) :
    PI X (.Tuple elts kk tpos) (.Call (.Name "enumerate" p) [e] [] pos) (lI false F X.K (iE wa)) := PI.imp (pi_enumA hg hm (da_cons (d_p ha) da_nil hs0) hs) fun σ H R ⟨C, δ, U, k, e1, e2, en, w, q⟩ => by
  refine ⟨C, δ, U, fun rs δ1 => ∃ r, rs = [r] ∧ ∃ ds, (r = .pub (.list ds) ∨ r = .pub (.tuple ds)) ∧ k (pairs 0 ds) δ1, e1, e2, en, ?_, fun rs δ1 hk vs H' U' s en' ho => ?_⟩
  · show xP wa δ _
    refine cast (congrArg (xP wa δ) ?_) w
    funext r δ1
    apply propext
    constructor
    · intro h; exact ⟨r, rfl, h⟩
    · rintro ⟨r', e, h⟩; cases e; exact h
  · obtain ⟨r, rfl, ds, hr, hk⟩ := hk
    cases ho with
    | cons o1 _ o3 =>
      cases o3
      have wk : ∀ {vs : List V} {J : It} {G : Hp → Prop}, DdAll C.K U' vs ds → Walk J vs.length G (YPair (fun i => some (.int (i : Nat))) (fun i => vs[i]?)) → (∀ H U, Same U' U → Same U H → G H) → ∀ C' : Ct, C'.K = X.K → WalkD false C' U' J (pairs 0 ds) := fun {vs J G} da w hG C' hC =>
        walk_pair w (by rw [pairs_len, da.len]) hG fun i x y hi h1 h2 => by
          cases h1
          obtain ⟨d, h3, h4⟩ := da.getV h2
          exact ⟨.int (i : Int), d, by rw [pairs_get, h3]; simp, .int _, by rw [hC, ← e1]; exact h4⟩
      rcases hr with rfl | rfl
      · cases o1 with
        | lst hl hall => exact ⟨_, _, rfl, .inl ⟨SqL.of (en'.wd.sub _ _ hl), q _ δ1 hk _ H' U' s en' (wk hall walk_enum fun H U s1 s2 => SqL.of (s2 _ _ (s1 _ _ hl)))⟩⟩
      · cases o1 with
        | tup hl hall => exact ⟨_, _, rfl, .inr ⟨(hl.same en'.wd.sub).sq, q _ δ1 hk _ H' U' s en' (wk hall walk_enumT fun H U s1 s2 => (hl.same (s1.trans s2)).sq (K := X.K))⟩⟩
def zipD (ds es : List PyData) : List PyData := List.zipWith (fun a b => .tuple [a, b]) ds es
def iZ (wa wb : DE) (δ : DEnv) (Q : List PyData → DEnv → Prop) : Prop := xP wa δ fun r δ1 => xP wb δ1 fun s δ2 => ∃ ds es, ((r = .pub (.list ds) ∧ s = .pub (.list es)) ∨ (r = .pub (.tuple ds) ∧ s = .pub (.tuple es))) ∧ Q (zipD ds es) δ2
/-- both lists, or both tuples -/
def twoS (f : List PyData → List PyData → Prop) (r s : Sl) (_ : Tag f := ()) : Prop := match r, s with
  | .pub (.list ds), .pub (.list es) => f ds es
  | .pub (.tuple ds), .pub (.tuple es) => f ds es
  | _, _ => False
@[simp ↓] theorem twoS_l (f : List PyData → List PyData → Prop) (ds es : List PyData) : twoS f (.pub (.list ds)) (.pub (.list es)) = f ds es := rfl
@[simp ↓] theorem twoS_t (f : List PyData → List PyData → Prop) (ds es : List PyData) : twoS f (.pub (.tuple ds)) (.pub (.tuple es)) = f ds es := rfl
theorem twoS_ex (f : List PyData → List PyData → Prop) (r s : Sl) : twoS f r s = ∃ ds es, ((r = .pub (.list ds) ∧ s = .pub (.list es)) ∨ (r = .pub (.tuple ds) ∧ s = .pub (.tuple es))) ∧ f ds es := by
  apply propext
  constructor
  · intro h
    unfold twoS at h
    split at h
    · exact ⟨_, _, .inl ⟨rfl, rfl⟩, h⟩
    · exact ⟨_, _, .inr ⟨rfl, rfl⟩, h⟩
    · exact h.elim
  · rintro ⟨ds, es, ⟨rfl, rfl⟩ | ⟨rfl, rfl⟩, h⟩ <;> exact h
theorem walk_zipT {K : PySem.W.Frag} {a b : Addr} {xs ys : List V} {n : Nat} (hn : n = min xs.length ys.length) : Walk (RZ.ItzT K a b) n (fun H => SqT K H a xs ∧ SqT K H b ys) (YPair (fun i => xs[i]?) (fun i => ys[i]?)) := by
  subst hn
  refine ⟨fun i _ hi q => ?_, fun _ q => ⟨xs, ys, q.1, q.2, by omega⟩, fun i H v H' _ q y => ?_⟩
  · have h1 : i < xs.length := by omega
    have h2 : i < ys.length := by omega
    exact ⟨xs, ys, xs[i], ys[i], q.1, q.2, by simp [h1], by simp [h2]⟩
  · obtain ⟨T, x, z, h1, h2, h3, h4, h5⟩ := y
    exact ⟨T, x, z, h1, h2, h3, h4 xs q.1, h5 ys q.2⟩
theorem di_zip {e2 : Expr} {p tpos : Pos} {elts : List Expr} {kk : Nat} (hg : Gl X "zip") (hm : X.mg "zip" = none) (ha : PE X e (lE F X.K wa)) (hb : PE X e2 (lE F X.K wb))
    (hs : starEach [e, e2] X.env = (false, eval e X.env) :: starEach [e2] X.env := by rfl) (hs2 : starEach [e2] X.env = (false, eval e2 X.env) :: starEach [] X.env := by rfl) (hpl : (backTo pos (starEach [e2] X.env)).any (·.1) = false := by rfl) :
    PI X (.Tuple elts kk tpos) (.Call (.Name "zip" p) [e, e2] [] pos) (lI false F X.K (iZ wa wb)) := PI.imp (RZ.pi_zipA hg hm (da_cons (d_p ha) (da_cons (d_p hb) da_nil hs2) hs) hs hpl) fun σ H R ⟨C, δ, U, k, e1, e2, en, w, q⟩ => by
  refine ⟨C, δ, U, fun rs δ1 => ∃ r s, rs = [r, s] ∧ ∃ ds es, ((r = .pub (.list ds) ∧ s = .pub (.list es)) ∨ (r = .pub (.tuple ds) ∧ s = .pub (.tuple es))) ∧ k (zipD ds es) δ1, e1, e2, en, ?_, fun rs δ1 hk vs H' U' s en' ho => ?_⟩
  · show xP wa δ _
    refine cast (congrArg (xP wa δ) ?_) w
    funext r δ1
    show xP wb δ1 _ = xP wb δ1 _
    congr
    funext s δ2
    apply propext
    constructor
    · intro h; exact ⟨r, s, rfl, h⟩
    · rintro ⟨r', s', e, h⟩; cases e; exact h
  · obtain ⟨r, s', rfl, ds, es, hr, hk⟩ := hk
    cases ho with
    | cons o1 _ o3 =>
      cases o3 with
      | cons o2 _ o4 =>
        cases o4
        have wk : ∀ {vs us : List V} {J : It} {G : Hp → Prop}, DdAll C.K U' vs ds → DdAll C.K U' us es → Walk J (min vs.length us.length) G (YPair (fun i => vs[i]?) (fun i => us[i]?)) → (∀ H U, Same U' U → Same U H → G H) → ∀ C' : Ct, C'.K = X.K → WalkD false C' U' J (zipD ds es) := fun {vs us J G} da db w hG C' hC =>
          walk_pair w (by unfold zipD; rw [List.length_zipWith, da.len, db.len]) hG fun i x y hi h1 h2 => by
            obtain ⟨d, h3, h4⟩ := da.getV h1
            obtain ⟨e', h5, h6⟩ := db.getV h2
            refine ⟨d, e', ?_, by rw [hC, ← e1]; exact h4, by rw [hC, ← e1]; exact h6⟩
            unfold zipD
            rw [List.getElem?_zipWith, h3, h5]
        rcases hr with ⟨rfl, rfl⟩ | ⟨rfl, rfl⟩
        · cases o1 with
          | lst hl hall =>
            cases o2 with
            | lst hl2 hall2 => exact ⟨_, _, _, _, rfl, .inl ⟨SqL.of (en'.wd.sub _ _ hl), SqL.of (en'.wd.sub _ _ hl2), q _ δ1 hk _ H' U' s en' (wk hall hall2 (walk_zip rfl) fun H U s1 s2 => ⟨SqL.of (s2 _ _ (s1 _ _ hl)), SqL.of (s2 _ _ (s1 _ _ hl2))⟩)⟩⟩
        · cases o1 with
          | tup hl hall =>
            cases o2 with
            | tup hl2 hall2 => exact ⟨_, _, _, _, rfl, .inr ⟨(hl.same en'.wd.sub).sq, (hl2.same en'.wd.sub).sq, q _ δ1 hk _ H' U' s en' (wk hall hall2 (walk_zipT rfl) fun H U s1 s2 => ⟨(hl.same (s1.trans s2)).sq (K := X.K), (hl2.same (s1.trans s2)).sq⟩)⟩⟩
def oNeg : O1
  | .int i, k => k (.pub (.int (-i)))
  | _, _ => False
@[simp ↓] theorem oNeg_i (i : Int) (k : Sl → Prop) : oNeg (.int i) k = k (.pub (.int (-i))) := rfl
theorem d_neg (ha : PE X e (lE F X.K wa)) : PE X (.UnaryOp .USub e pos) (lE F X.K (x1 oNeg wa)) := PE.imp (pe_un un_neg ha) fun σ H Q ⟨C, δ, U, k, e1, e2, en, w, q⟩ => by
  refine ⟨C, δ, U, _, e1, e2, en, w, fun r δ1 hk v H1 U1 s1 en1 o1 => ?_⟩
  obtain ⟨U2, s2, en2, ho2⟩ := hold_of en1 o1
  obtain ⟨x, hx, hf⟩ := hk
  cases x with
  | int i =>
    obtain rfl := int_of en2 ho2 hx
    exact ⟨i, rfl, q _ δ1 hf _ H1 U2 (s1.trans s2) en2 (show Dd _ _ _ _ from .int _)⟩
  | _ => exact False.elim hf
theorem atI_neg1 {α : Type} {xs : List α} {x : α} (h : xs.getLast? = some x) : atI xs (-1) = some x := by
  obtain ⟨ys, rfl⟩ := List.getLast?_eq_some_iff.mp h
  exact atI_last ys x
@[simp ↓] theorem iZ_s (δ : DEnv) (Q : List PyData → DEnv → Prop) : iZ wa wb δ Q = wa δ fun r δ1 => pubK (fun r δ1 => wb δ1 fun s δ2 => pubK (fun s δ2 => twoS (fun ds es => Q (zipD ds es) δ2) r s) s δ2) r δ1 := by
  unfold iZ
  have h1 : (fun (r : Sl) (δ1 : DEnv) => xP wb δ1 fun s δ2 => ∃ ds es, ((r = .pub (.list ds) ∧ s = .pub (.list es)) ∨ (r = .pub (.tuple ds) ∧ s = .pub (.tuple es))) ∧ Q (zipD ds es) δ2) = fun r δ1 => wb δ1 fun s δ2 => pubK (fun s δ2 => twoS (fun ds es => Q (zipD ds es) δ2) r s) s δ2 := by
    funext r δ1
    rw [xP_s]
    have h2 : (fun (s : Sl) (δ2 : DEnv) => ∃ ds es, ((r = .pub (.list ds) ∧ s = .pub (.list es)) ∨ (r = .pub (.tuple ds) ∧ s = .pub (.tuple es))) ∧ Q (zipD ds es) δ2) = fun s δ2 => twoS (fun ds es => Q (zipD ds es) δ2) r s := by
      funext s δ2; rw [twoS_ex]
    rw [h2]
  rw [xP_s, h1]
end
end DX

namespace MX
/-! rounds on rows: plain lists of ints, equal keys allowed -/
/-- the pair (p, p + 1) is compared in the round with number k -/
def cmpd (n s k p : Nat) : Bool := decide (p + 1 < n ∧ (p + s + k) % 2 = 1)
/-- the place p after a round that compares the pairs of C -/
def stp (C : Nat → Bool) (x : Nat → Int) (p : Nat) : Int :=
  if C p then min (x p) (x (p + 1)) else if 0 < p ∧ C (p - 1) then max (x (p - 1)) (x p) else x p
def rndC (C : Nat → Bool) (row : List Int) : List Int := (List.range row.length).map (stp C fun p => row.getD p 0)
def rnd (s k : Nat) (row : List Int) : List Int := rndC (cmpd row.length s k) row
def run (s : Nat) : Nat → List Int → List Int
  | 0, row => row
  | r + 1, row => rnd s (r + 1) (run s r row)
/-- pairs apart from each other, and inside the row -/
def Fit (n : Nat) (C : Nat → Bool) : Prop := ∀ p, C p = true → p + 1 < n ∧ C (p + 1) = false
theorem fit_cmpd (n s k : Nat) : Fit n (cmpd n s k) := by
  intro p h
  simp only [cmpd, decide_eq_true_eq, decide_eq_false_iff_not] at *
  omega
theorem fit_sub {n : Nat} {C D : Nat → Bool} (h : Fit n C) (hd : ∀ p, D p = true → C p = true) : Fit n D := by
  intro p q
  have := h p (hd p q)
  refine ⟨this.1, ?_⟩
  cases e : D (p + 1) with
  | false => rfl
  | true => rw [hd _ e] at this; exact absurd this.2 (by decide)
/-- the same, pair after pair -/
def go (C : Nat → Bool) : Nat → List Int → List Int
  | _, [] => []
  | _, [x] => [x]
  | p, x :: y :: t => if C p then min x y :: max x y :: go C (p + 2) t else x :: go C (p + 1) (y :: t)
theorem go_eq {C : Nat → Bool} (hC : ∀ q, C q = true → C (q + 1) = false) : ∀ (l : List Int) (p : Nat) (x : Nat → Int), (∀ q, C q = true → q + 1 < p + l.length) → (0 < p → C (p - 1) = false) → (∀ i (h : i < l.length), x (p + i) = l[i]) →
    go C p l = (List.range l.length).map fun i => stp C x (p + i)
  | [], p, x, _, _, _ => rfl
  | [x0], p, x, hb, hp, hx => by
    have h0 := hx 0 (by simp)
    have hc : C p = false := by
      cases e : C p with
      | false => rfl
      | true => have := hb p e; simp at this
    show [x0] = [stp C x (p + 0)]
    unfold stp
    rw [Nat.add_zero, hc, if_neg (by simp), if_neg (fun ⟨a, b⟩ => by rw [hp a] at b; cases b)]
    simpa using h0.symm
  | x0 :: y0 :: t, p, x, hb, hp, hx => by
    have h0 : x p = x0 := hx 0 (by simp)
    have h1 : x (p + 1) = y0 := hx 1 (by simp)
    unfold go
    by_cases hc : C p = true
    · rw [if_pos hc]
      have ih := go_eq hC t (p + 2) x (fun q h => by have := hb q h; simp only [List.length_cons] at this; omega) (fun _ => by simpa using hC p hc) (fun i h => by
        have := hx (i + 2) (by simpa using h)
        rw [show p + 2 + i = p + (i + 2) by omega, this]; rfl)
      rw [ih]
      show _ = (List.range (t.length + 2)).map _
      rw [List.range_succ_eq_map, List.range_succ_eq_map]
      simp only [List.map_cons, List.map_map, Nat.add_zero]
      congr 1
      · unfold stp; rw [if_pos hc, h0, h1]
      · congr 1
        · unfold stp
          rw [show p + Nat.succ 0 = p + 1 from rfl, hC p hc, if_neg (by simp), if_pos (by exact ⟨by omega, hc⟩), Nat.add_sub_cancel, h0, h1]
        · refine List.map_congr_left fun i _ => ?_
          show _ = stp C x (p + Nat.succ (Nat.succ i))
          congr 1
          omega
    · have hc' : C p = false := by simpa using hc
      rw [if_neg hc]
      have ih := go_eq hC (y0 :: t) (p + 1) x (fun q h => by have := hb q h; simp only [List.length_cons] at *; omega) (fun _ => by simpa using hc') (fun i h => by
        have := hx (i + 1) (by simpa using h)
        rw [show p + 1 + i = p + (i + 1) by omega, this]; rfl)
      rw [ih]
      show _ = (List.range ((y0 :: t).length + 1)).map _
      rw [List.range_succ_eq_map]
      simp only [List.map_cons, List.map_map, Nat.add_zero]
      congr 1
      · unfold stp
        rw [hc', if_neg (by simp), if_neg (fun ⟨a, b⟩ => by rw [hp a] at b; cases b), h0]
      · refine List.map_congr_left fun i _ => ?_
        show _ = stp C x (p + Nat.succ i)
        congr 1
        omega
theorem rndC_go {C : Nat → Bool} {row : List Int} (h : Fit row.length C) : rndC C row = go C 0 row := by
  rw [go_eq (fun q e => (h q e).2) row 0 (fun p => row.getD p 0) (fun q e => by simpa using (h q e).1) (fun a => absurd a (by omega)) (fun i hi => by
    show row.getD (0 + i) 0 = _
    rw [Nat.zero_add, List.getD_eq_getElem?_getD, List.getElem?_eq_getElem hi]; rfl)]
  unfold rndC
  refine List.map_congr_left fun i _ => by rw [Nat.zero_add]
theorem minmax_perm (x y : Int) (t : List Int) : (min x y :: max x y :: t).Perm (x :: y :: t) := by
  by_cases h : x ≤ y
  · rw [Int.min_eq_left h, Int.max_eq_right h]
  · rw [Int.min_eq_right (by omega), Int.max_eq_left (by omega)]
    exact List.Perm.swap _ _ _
theorem go_perm (C : Nat → Bool) : ∀ (p : Nat) (l : List Int), (go C p l).Perm l
  | _, [] => List.Perm.refl _
  | _, [x] => List.Perm.refl _
  | p, x :: y :: t => by
    unfold go
    by_cases hc : C p = true
    · rw [if_pos hc]
      exact (((go_perm C (p + 2) t).cons _).cons _).trans (minmax_perm x y t)
    · rw [if_neg hc]
      exact (go_perm C (p + 1) (y :: t)).cons _
theorem rndC_len (C : Nat → Bool) (row : List Int) : (rndC C row).length = row.length := by simp [rndC]
theorem rndC_perm {C : Nat → Bool} {row : List Int} (h : Fit row.length C) : (rndC C row).Perm row := by
  rw [rndC_go h]; exact go_perm C 0 row
theorem rnd_len (s k : Nat) (row : List Int) : (rnd s k row).length = row.length := rndC_len _ _
theorem rnd_perm (s k : Nat) (row : List Int) : (rnd s k row).Perm row := rndC_perm (fit_cmpd _ _ _)
theorem run_len (s : Nat) (row : List Int) : ∀ r, (run s r row).length = row.length
  | 0 => rfl
  | r + 1 => (rnd_len _ _ _).trans (run_len s row r)
theorem run_perm (s : Nat) (row : List Int) : ∀ r, (run s r row).Perm row
  | 0 => List.Perm.refl _
  | r + 1 => (rnd_perm _ _ _).trans (run_perm s row r)
theorem cmpd_par {n s k s' k' : Nat} (h : (s + k) % 2 = (s' + k') % 2) : cmpd n s k = cmpd n s' k' := by
  funext p
  unfold cmpd
  rw [Bool.eq_iff_iff, decide_eq_true_eq, decide_eq_true_eq]
  omega
theorem rnd_par {s k s' k' : Nat} (h : (s + k) % 2 = (s' + k') % 2) (row : List Int) : rnd s k row = rnd s' k' row := by
  unfold rnd; rw [cmpd_par h]
theorem run_par {s s' : Nat} (h : s % 2 = s' % 2) (row : List Int) : ∀ r, run s r row = run s' r row
  | 0 => rfl
  | r + 1 => by
    show rnd s (r + 1) (run s r row) = rnd s' (r + 1) (run s' r row)
    rw [run_par h row r]
    exact rnd_par (by omega) _
/-- rounds in two parts -/
theorem run_add (s a : Nat) (row : List Int) : ∀ b, run s (a + b) row = run ((s + a) % 2) b (run s a row)
  | 0 => rfl
  | b + 1 => by
    show rnd s (a + b + 1) (run s (a + b) row) = rnd ((s + a) % 2) (b + 1) _
    rw [run_add s a row b]
    exact rnd_par (by omega) _
/-! light places -/
def ltF (t : Int) : Nat → List Int → List Int
  | _, [] => []
  | p, x :: xs => if x ≤ t then (p : Int) :: ltF t (p + 1) xs else ltF t (p + 1) xs
def ofN (C : Nat → Bool) (q : Int) : Bool := decide (0 ≤ q) && C q.toNat
/-- each light place moves to the left if it is compared there with a heavy one -/
def nxt (c : Int → Bool) : Int → List Int → List Int
  | _, [] => []
  | a, b :: bs => (if c (b - 1) = true ∧ a ≠ b - 1 then b - 1 else b) :: nxt c b bs
theorem ofN_pred (C : Nat → Bool) (p : Nat) : ofN C ((p : Int) - 1) = true ↔ 0 < p ∧ C (p - 1) = true := by
  unfold ofN
  rw [Bool.and_eq_true, decide_eq_true_eq]
  constructor
  · rintro ⟨h, e⟩
    refine ⟨by omega, ?_⟩
    rwa [show ((p : Int) - 1).toNat = p - 1 by omega] at e
  · rintro ⟨h, e⟩
    refine ⟨by omega, ?_⟩
    rwa [show ((p : Int) - 1).toNat = p - 1 by omega]
theorem ltF_go {C : Nat → Bool} (hC : ∀ q, C q = true → C (q + 1) = false) (t : Int) : ∀ (l : List Int) (p : Nat) (a : Int), (∀ q, C q = true → q + 1 < p + l.length) → (0 < p → C (p - 1) = false) → a < p →
    ltF t p (go C p l) = nxt (ofN C) a (ltF t p l)
  | [], _, _, _, _, _ => rfl
  | [x0], p, a, hb, hp, ha => by
    unfold go
    have hn : ¬ (ofN C ((p : Int) - 1) = true ∧ a ≠ (p : Int) - 1) := fun ⟨h, _⟩ => by
      obtain ⟨h1, h2⟩ := (ofN_pred C p).mp h
      rw [hp h1] at h2; cases h2
    unfold ltF
    by_cases h : x0 ≤ t
    · rw [if_pos h]; show _ = [if _ then _ else _]; rw [if_neg hn]; rfl
    · rw [if_neg h]; rfl
  | x0 :: y0 :: tl, p, a, hb, hp, ha => by
    have hn : ¬ (ofN C ((p : Int) - 1) = true ∧ a ≠ (p : Int) - 1) := fun ⟨h, _⟩ => by
      obtain ⟨h1, h2⟩ := (ofN_pred C p).mp h
      rw [hp h1] at h2; cases h2
    unfold go
    by_cases hc : C p = true
    · rw [if_pos hc]
      have ih := fun a' (h : a' < ((p + 2 : Nat) : Int)) => ltF_go hC t tl (p + 2) a' (fun q h => by have := hb q h; simp only [List.length_cons] at this; omega) (fun _ => by simpa using hC p hc) h
      have hcp : ofN C (((p + 1 : Nat) : Int) - 1) = true := (ofN_pred C (p + 1)).mpr ⟨by omega, by simpa using hc⟩
      by_cases hx : x0 ≤ t <;> by_cases hy : y0 ≤ t
      · have e1 : ltF t p (min x0 y0 :: max x0 y0 :: go C (p + 2) tl) = (p : Int) :: ((p + 1 : Nat) : Int) :: ltF t (p + 2) (go C (p + 2) tl) := by
          simp only [ltF]; rw [if_pos (by omega), if_pos (by omega)]
        have e2 : ltF t p (x0 :: y0 :: tl) = (p : Int) :: ((p + 1 : Nat) : Int) :: ltF t (p + 2) tl := by
          simp only [ltF]; rw [if_pos hx, if_pos hy]
        rw [e1, e2, ih ((p + 1 : Nat) : Int) (by omega)]
        simp only [nxt]
        rw [if_neg hn, if_neg (fun ⟨_, h⟩ => h (by omega))]
      · have e1 : ltF t p (min x0 y0 :: max x0 y0 :: go C (p + 2) tl) = (p : Int) :: ltF t (p + 2) (go C (p + 2) tl) := by
          simp only [ltF]; rw [if_pos (by omega), if_neg (by omega)]
        have e2 : ltF t p (x0 :: y0 :: tl) = (p : Int) :: ltF t (p + 2) tl := by
          simp only [ltF]; rw [if_pos hx, if_neg hy]
        rw [e1, e2, ih (p : Int) (by omega)]
        simp only [nxt]
        rw [if_neg hn]
      · have e1 : ltF t p (min x0 y0 :: max x0 y0 :: go C (p + 2) tl) = (p : Int) :: ltF t (p + 2) (go C (p + 2) tl) := by
          simp only [ltF]; rw [if_pos (by omega), if_neg (by omega)]
        have e2 : ltF t p (x0 :: y0 :: tl) = ((p + 1 : Nat) : Int) :: ltF t (p + 2) tl := by
          simp only [ltF]; rw [if_neg hx, if_pos hy]
        rw [e1, e2, ih ((p + 1 : Nat) : Int) (by omega)]
        simp only [nxt]
        rw [if_pos ⟨hcp, by omega⟩]
        congr 1
        omega
      · have e1 : ltF t p (min x0 y0 :: max x0 y0 :: go C (p + 2) tl) = ltF t (p + 2) (go C (p + 2) tl) := by
          simp only [ltF]; rw [if_neg (by omega), if_neg (by omega)]
        have e2 : ltF t p (x0 :: y0 :: tl) = ltF t (p + 2) tl := by
          simp only [ltF]; rw [if_neg hx, if_neg hy]
        rw [e1, e2, ih a (by omega)]
    · have hc' : C p = false := by simpa using hc
      rw [if_neg hc]
      have ih := fun a' (h : a' < ((p + 1 : Nat) : Int)) => ltF_go hC t (y0 :: tl) (p + 1) a' (fun q h => by have := hb q h; simp only [List.length_cons] at *; omega) (fun _ => by simpa using hc') h
      by_cases hx : x0 ≤ t
      · have e1 : ltF t p (x0 :: go C (p + 1) (y0 :: tl)) = (p : Int) :: ltF t (p + 1) (go C (p + 1) (y0 :: tl)) := by
          simp only [ltF]; rw [if_pos hx]
        have e2 : ltF t p (x0 :: y0 :: tl) = (p : Int) :: ltF t (p + 1) (y0 :: tl) := by
          simp only [ltF]; rw [if_pos hx]
        rw [e1, e2, ih (p : Int) (by omega)]
        simp only [nxt]
        rw [if_neg hn]
      · have e1 : ltF t p (x0 :: go C (p + 1) (y0 :: tl)) = ltF t (p + 1) (go C (p + 1) (y0 :: tl)) := by
          simp only [ltF]; rw [if_neg hx]
        have e2 : ltF t p (x0 :: y0 :: tl) = ltF t (p + 1) (y0 :: tl) := by
          simp only [ltF]; rw [if_neg hx]
        rw [e1, e2, ih a (by omega)]
/-- the light places after a round follow from the light places -/
theorem lt_rndC {C : Nat → Bool} {row : List Int} (h : Fit row.length C) (t : Int) : ltF t 0 (rndC C row) = nxt (ofN C) (-1) (ltF t 0 row) := by
  rw [rndC_go h]
  exact ltF_go (fun q e => (h q e).2) t row 0 (-1) (fun q e => by simpa using (h q e).1) (fun a => absurd a (by omega)) (by omega)
end MX

namespace MX
/-! light keys over the rounds: the closed form of their places -/
theorem ltF_bd (t : Int) : ∀ (l : List Int) (p : Nat), ∀ b ∈ ltF t p l, (p : Int) ≤ b ∧ b < p + l.length
  | [], _, _, h => nomatch h
  | x :: xs, p, b, h => by
    have ih := ltF_bd t xs (p + 1)
    unfold ltF at h
    rw [List.length_cons]
    split at h
    · rcases List.mem_cons.mp h with e | h
      · omega
      · have := ih b h; omega
    · have := ih b h; omega
theorem ltF_asc (t : Int) : ∀ (l : List Int) (p : Nat), (ltF t p l).Pairwise (· < ·)
  | [], _ => List.Pairwise.nil
  | x :: xs, p => by
    unfold ltF
    split
    · refine List.pairwise_cons.mpr ⟨fun b h => ?_, ltF_asc t xs (p + 1)⟩
      have := ltF_bd t xs (p + 1) b h
      omega
    · exact ltF_asc t xs (p + 1)
theorem mem_ltF (t : Int) : ∀ (l : List Int) (p i : Nat), ((p + i : Nat) : Int) ∈ ltF t p l ↔ ∃ h : i < l.length, l[i] ≤ t
  | [], _, _ => by simp [ltF]
  | x :: xs, p, 0 => by
    have hn : ¬ (((p : Nat) : Int) ∈ ltF t (p + 1) xs) := fun h => by have := ltF_bd t xs (p + 1) _ h; omega
    unfold ltF
    split
    · rename_i h; simp [h]
    · rename_i h; simp [h, hn]
  | x :: xs, p, i + 1 => by
    have ih := mem_ltF t xs (p + 1) i
    rw [show p + 1 + i = p + (i + 1) by omega] at ih
    unfold ltF
    split
    · rw [List.mem_cons, ih]
      simp
      omega
    · rw [ih]; simp
theorem ltF_len (t : Int) : ∀ (l : List Int) (p : Nat), (ltF t p l).length = (l.filter fun z => decide (z ≤ t)).length
  | [], _ => rfl
  | x :: xs, p => by
    have ih := ltF_len t xs (p + 1)
    unfold ltF
    split
    · rename_i h; rw [List.filter_cons_of_pos (by simpa using h), List.length_cons, List.length_cons, ih]
    · rename_i h; rw [List.filter_cons_of_neg (by simpa using h), ih]
/-- one light key; a: the light key before it -/
def col (s : Nat) (a : Nat → Int) (p : Int) : Nat → Int
  | 0 => p
  | r + 1 => if (col s a p r + s + r) % 2 = 1 ∧ a r ≠ col s a p r - 1 then col s a p r - 1 else col s a p r
def cols (s : Nat) : (Nat → Int) → List Int → List (Nat → Int)
  | _, [] => []
  | a, p :: ps => col s a p :: cols s (col s a p) ps
theorem cols_zero (s : Nat) : ∀ (ps : List Int) (a : Nat → Int), (cols s a ps).map (· 0) = ps
  | [], _ => rfl
  | p :: ps, a => by
    show p :: (cols s (col s a p) ps).map (· 0) = _
    rw [cols_zero s ps]
theorem nxt_cols {s n r : Nat} : ∀ (ps : List Int) (a : Nat → Int), -1 ≤ a r → (a r :: (cols s a ps).map (· r)).Pairwise (· < ·) → (∀ b ∈ (cols s a ps).map (· r), b < (n : Int)) →
    nxt (ofN (cmpd n s (r + 1))) (a r) ((cols s a ps).map (· r)) = (cols s a ps).map (· (r + 1))
  | [], _, _, _, _ => rfl
  | p :: ps, a, ha, hp, hn => by
    have h1 := List.pairwise_cons.mp hp
    have hb : a r < col s a p r := h1.1 _ (List.mem_map_of_mem (List.mem_cons_self))
    have ih := nxt_cols ps (col s a p) (by omega) h1.2 (fun b h => hn b (List.mem_cons_of_mem _ h))
    have hbn : col s a p r < (n : Int) := hn _ (List.mem_cons_self)
    show (if _ then _ else _) :: nxt _ (col s a p r) ((cols s (col s a p) ps).map (· r)) = col s a p (r + 1) :: (cols s (col s a p) ps).map (· (r + 1))
    rw [ih]
    congr 1
    show (if ofN (cmpd n s (r + 1)) (col s a p r - 1) = true ∧ a r ≠ col s a p r - 1 then col s a p r - 1 else col s a p r) = (if _ then _ else _)
    generalize col s a p r = b at *
    have : (ofN (cmpd n s (r + 1)) (b - 1) = true ∧ a r ≠ b - 1) ↔ ((b + s + r) % 2 = 1 ∧ a r ≠ b - 1) := by
      unfold ofN cmpd
      rw [Bool.and_eq_true, decide_eq_true_eq, decide_eq_true_eq]
      omega
    by_cases h : (b + s + r) % 2 = 1 ∧ a r ≠ b - 1
    · rw [if_pos h, if_pos (this.mpr h)]
    · rw [if_neg h, if_neg (fun z => h (this.mp z))]
abbrev neg1 : Nat → Int := fun _ => -1
/-- the light places after r rounds, key by key -/
theorem lt_run (s : Nat) (row : List Int) (t : Int) : ∀ r, ltF t 0 (run s r row) = (cols s neg1 (ltF t 0 row)).map (· r)
  | 0 => (cols_zero s _ _).symm
  | r + 1 => by
    have ih := lt_run s row t r
    have h1 := ltF_bd t (run s r row) 0
    have h2 := ltF_asc t (run s r row) 0
    rw [ih] at h1 h2
    show ltF t 0 (rndC (cmpd (run s r row).length s (r + 1)) (run s r row)) = _
    rw [lt_rndC (fit_cmpd _ _ _), ih]
    exact nxt_cols (n := (run s r row).length) (ltF t 0 row) neg1 (by show (-1 : Int) ≤ -1; omega) (List.pairwise_cons.mpr ⟨fun b h => by have := h1 b h; show (-1 : Int) < b; omega, h2⟩) (fun b h => by have := h1 b h; omega)
def wt (s : Nat) (p : Int) : Int := if p = 0 ∨ (p + s) % 2 = 1 then 0 else 1
/-- the way of a light key: down by steps of 1, after each step ready for the next one -/
structure Lead (s : Nat) (a : Nat → Int) : Prop where
  lo : ∀ r, -1 ≤ a r
  dn : ∀ r, a (r + 1) = a r ∨ (a (r + 1) = a r - 1 ∧ (a r + s + r) % 2 = 1)
theorem lead_neg1 (s : Nat) : Lead s neg1 := ⟨fun _ => by show (-1 : Int) ≤ -1; omega, fun _ => .inl rfl⟩
theorem col_dn (s : Nat) (a : Nat → Int) (p : Int) (r : Nat) : (col s a p (r + 1) = col s a p r ∧ ¬ ((col s a p r + s + r) % 2 = 1 ∧ a r ≠ col s a p r - 1)) ∨ (col s a p (r + 1) = col s a p r - 1 ∧ (col s a p r + s + r) % 2 = 1 ∧ a r ≠ col s a p r - 1) := by
  by_cases h : (col s a p r + s + r) % 2 = 1 ∧ a r ≠ col s a p r - 1
  · exact .inr ⟨if_pos h, h⟩
  · exact .inl ⟨if_neg h, h⟩
theorem col_gt {s : Nat} {a : Nat → Int} (L : Lead s a) {p : Int} (hp : a 0 < p) : ∀ r, a r < col s a p r
  | 0 => hp
  | r + 1 => by
    have ih := col_gt L hp r
    have h1 := L.dn r
    rcases col_dn s a p r with ⟨h, _⟩ | ⟨h, _, h2⟩ <;> omega
theorem col_lead {s : Nat} {a : Nat → Int} (L : Lead s a) {p : Int} (hp : a 0 < p) : Lead s (col s a p) := by
  refine ⟨fun r => ?_, fun r => ?_⟩
  · have := col_gt L hp r; have := L.lo r; omega
  · rcases col_dn s a p r with ⟨h, _⟩ | ⟨h, h1, _⟩
    · exact .inl h
    · exact .inr ⟨h, h1⟩
theorem lead_le {s : Nat} {a : Nat → Int} (L : Lead s a) : ∀ r, a r ≤ a 0
  | 0 => Int.le_refl _
  | r + 1 => by have := lead_le L r; have := L.dn r; omega
/-- a light key goes as if it were alone, or one round behind the one before it -/
theorem col_at {s : Nat} {a : Nat → Int} (L : Lead s a) {p : Int} (hp : a 0 < p) (hp0 : 0 ≤ p) : ∀ r : Nat, col s a p r = max (p - max 0 (r - wt s p)) (a (r - 1) + 1) := by
  by_cases h0 : p = 0
  · subst h0
    have ha : ∀ r, a r = -1 := fun r => by have := lead_le L r; have := L.lo r; omega
    have hc : ∀ r, col s a 0 r = 0 := fun r => by
      induction r with
      | zero => rfl
      | succ r ih => rcases col_dn s a 0 r with ⟨h, _⟩ | ⟨h, _, h2⟩ <;> have := ha r <;> omega
    intro r
    rw [hc, ha]
    omega
  · have hw : wt s p = if (p + s) % 2 = 1 then 0 else 1 := by
      unfold wt
      by_cases h : (p + s) % 2 = 1
      · rw [if_pos (.inr h), if_pos h]
      · rw [if_neg (fun z => z.elim h0 h), if_neg h]
    intro r
    induction r with
    | zero =>
      show p = _
      have : a (0 - 1) = a 0 := rfl
      rw [this, hw]
      split <;> omega
    | succ r ih =>
      have hd := L.dn (r - 1)
      have hgt := col_gt L hp r
      have hgt1 := col_gt L hp (r + 1)
      rw [Nat.add_sub_cancel]
      rcases col_dn s a p r with ⟨h1, h2⟩ | ⟨h1, h2, h3⟩
      · rw [h1, ih]
        rw [ih] at h2 hgt h1
        rw [hw] at *
        cases r with
        | zero =>
          simp only [Nat.zero_sub, Nat.zero_add] at *
          split at h2 <;> omega
        | succ r =>
          simp only [Nat.add_sub_cancel] at *
          split at h2 <;> omega
      · rw [h1]
        rw [ih] at h2 h3 hgt h1
        rw [ih]
        rw [hw] at *
        cases r with
        | zero =>
          simp only [Nat.zero_sub, Nat.zero_add] at *
          split at h2 <;> omega
        | succ r =>
          simp only [Nat.add_sub_cancel] at *
          split at h2 <;> omega
/-- the j-th light key -/
def colJ (s : Nat) (a : Nat → Int) (p : Nat → Int) : Nat → Nat → Int
  | 0 => col s a (p 0)
  | j + 1 => col s (colJ s a p j) (p (j + 1))
theorem colJ_shift (s : Nat) (a : Nat → Int) (p : Nat → Int) : ∀ j, colJ s a p (j + 1) = colJ s (col s a (p 0)) (fun i => p (i + 1)) j
  | 0 => rfl
  | j + 1 => by
    show col s (colJ s a p (j + 1)) (p (j + 2)) = col s (colJ s (col s a (p 0)) (fun i => p (i + 1)) j) (p (j + 2))
    rw [colJ_shift s a p j]
theorem cols_at (s : Nat) : ∀ (ps : List Int) (a : Nat → Int) (j : Nat), j < ps.length → (cols s a ps)[j]? = some (colJ s a (fun i => ps.getD i 0) j)
  | [], _, _, h => absurd h (by simp)
  | p :: ps, a, 0, _ => rfl
  | p :: ps, a, j + 1, h => by
    have ih := cols_at s ps (col s a p) j (by simpa using h)
    rw [colJ_shift]
    exact ih
theorem cols_len (s : Nat) : ∀ (ps : List Int) (a : Nat → Int), (cols s a ps).length = ps.length
  | [], _ => rfl
  | p :: ps, a => by
    show (cols s (col s a p) ps).length + 1 = _
    rw [cols_len s ps]; rfl
/-- ascending places from 0 on -/
structure Places (m : Nat) (p : Nat → Int) : Prop where
  lo : 0 ≤ p 0
  up : ∀ j, j + 1 < m → p j < p (j + 1)
theorem Places.ge {m : Nat} {p : Nat → Int} (h : Places m p) : ∀ j, j < m → (j : Int) ≤ p j
  | 0, _ => h.lo
  | j + 1, hj => by have := h.ge j (by omega); have := h.up j hj; omega
theorem colJ_lead {s m : Nat} {p : Nat → Int} (h : Places m p) : ∀ j, j < m → Lead s (colJ s neg1 p j) ∧ colJ s neg1 p j 0 = p j
  | 0, _ => ⟨col_lead (lead_neg1 s) (by have := h.lo; show (-1 : Int) < _; omega), rfl⟩
  | j + 1, hj => by
    have ih := colJ_lead (s := s) h j (by omega)
    exact ⟨col_lead ih.1 (by rw [ih.2]; exact h.up j hj), rfl⟩
theorem colJ_rec {s m : Nat} {p : Nat → Int} (h : Places m p) (j : Nat) (hj : j + 1 < m) (r : Nat) : colJ s neg1 p (j + 1) r = max (p (j + 1) - max 0 (r - wt s (p (j + 1)))) (colJ s neg1 p j (r - 1) + 1) := by
  have ih := colJ_lead (s := s) h j (by omega)
  exact col_at ih.1 (by rw [ih.2]; exact h.up j hj) (by have := h.ge (j + 1) hj; omega) r
theorem colJ_zero {s m : Nat} {p : Nat → Int} (h : Places m p) (r : Nat) : colJ s neg1 p 0 r = max (p 0 - max 0 (r - wt s (p 0))) 0 := by
  have := col_at (lead_neg1 s) (p := p 0) (by have := h.lo; show (-1 : Int) < _; omega) h.lo r
  exact this
/-- the closed form: the greatest of j and the bounds of the light keys before -/
theorem colJ_le {s m : Nat} {p : Nat → Int} (h : Places m p) : ∀ (j : Nat), j < m → ∀ (r : Nat) (z : Int), colJ s neg1 p j r ≤ z ↔ (j : Int) ≤ z ∧ ∀ i, i ≤ j → p i + ((j : Int) - i) - max 0 ((r : Int) - ((j : Int) - i) - wt s (p i)) ≤ z
  | 0, _, r, z => by
    rw [colJ_zero h]
    constructor
    · intro q
      refine ⟨by omega, fun i hi => ?_⟩
      have : i = 0 := by omega
      subst this
      omega
    · rintro ⟨q1, q2⟩
      have := q2 0 (by omega)
      omega
  | j + 1, hj, r, z => by
    have ih := colJ_le (s := s) h j (by omega) (r - 1) (z - 1)
    rw [colJ_rec h j hj]
    have e : (max (p (j + 1) - max 0 (↑r - wt s (p (j + 1)))) (colJ s neg1 p j (r - 1) + 1) ≤ z) ↔ (p (j + 1) - max 0 (↑r - wt s (p (j + 1))) ≤ z ∧ colJ s neg1 p j (r - 1) ≤ z - 1) := by omega
    rw [e, ih]
    have hw : ∀ q, 0 ≤ wt s q := fun q => by unfold wt; split <;> omega
    constructor
    · rintro ⟨q0, q1, q2⟩
      refine ⟨by omega, fun i hi => ?_⟩
      rcases Nat.lt_or_ge i (j + 1) with hl | hg
      · have := q2 i (by omega)
        have := hw (p i)
        omega
      · have : i = j + 1 := by omega
        subst this
        omega
    · rintro ⟨q1, q2⟩
      refine ⟨by have := q2 (j + 1) (by omega); omega, by omega, fun i hi => ?_⟩
      have := q2 i (by omega)
      have := hw (p i)
      omega
theorem colJ_ge {s m : Nat} {p : Nat → Int} (h : Places m p) (j : Nat) (hj : j < m) (r : Nat) : (j : Int) ≤ colJ s neg1 p j r :=
  ((colJ_le h j hj r _).mp (Int.le_refl _)).1
def dly (s m j : Nat) (p : Int) : Int := p - j + wt s p + ((m : Int) - 1 - j)
/-- all light keys are home from the greatest delay on -/
theorem home_iff {s m : Nat} {p : Nat → Int} (h : Places m p) (r : Nat) : (∀ j, j < m → colJ s neg1 p j r = j) ↔ (∀ j, j < m → p j ≠ j → dly s m j (p j) ≤ r) := by
  constructor
  · intro q j hj hne
    have h1 := q (m - 1) (by omega)
    have h2 := ((colJ_le (s := s) h (m - 1) (by omega) r _).mp (Int.le_of_eq h1)).2 j (by omega)
    have := h.ge j hj
    unfold dly
    omega
  · intro q j hj
    have h1 := colJ_ge (s := s) h j hj r
    have h2 : colJ s neg1 p j r ≤ j := (colJ_le (s := s) h j hj r _).mpr ⟨Int.le_refl _, fun i hi => by
      by_cases e : p i = i
      · omega
      · have := q i (by omega) e
        unfold dly at this
        omega⟩
    omega
/-- the round in which a light key comes home -/
def arrJ (s : Nat) (p : Nat → Int) : Nat → Int
  | 0 => if p 0 = 0 then 0 else p 0 + wt s (p 0)
  | j + 1 => if p (j + 1) = ((j + 1 : Nat) : Int) then 0 else if p j = (j : Int) then p (j + 1) - ((j + 1 : Nat) : Int) + wt s (p (j + 1)) else max (p (j + 1) - ((j + 1 : Nat) : Int) + wt s (p (j + 1))) (arrJ s p j + 1)
theorem wt_01 (s : Nat) (p : Int) : 0 ≤ wt s p ∧ wt s p ≤ 1 := by unfold wt; split <;> omega
theorem arrJ_iff {s m : Nat} {p : Nat → Int} (h : Places m p) : ∀ j, j < m → ∀ r : Nat, colJ s neg1 p j r = j ↔ arrJ s p j ≤ r
  | 0, _, r => by
    rw [colJ_zero h]
    unfold arrJ
    have := h.lo
    have := wt_01 s (p 0)
    split <;> omega
  | j + 1, hj, r => by
    have ih := arrJ_iff (s := s) h j (by omega) (r - 1)
    rw [colJ_rec h j hj]
    unfold arrJ
    have h1 := h.ge (j + 1) hj
    have h2 := h.ge j (by omega)
    have h3 := h.up j hj
    have h4 := colJ_ge (s := s) h j (by omega) (r - 1)
    have h5 := wt_01 s (p (j + 1))
    by_cases e : p (j + 1) = ((j + 1 : Nat) : Int)
    · rw [if_pos e]
      have e2 : p j = j := by omega
      have : colJ s neg1 p j (r - 1) ≤ p j := by
        have L := colJ_lead (s := s) h j (by omega)
        have := lead_le L.1 (r - 1)
        rw [L.2] at this
        exact this
      omega
    · rw [if_neg e]
      by_cases e2 : p j = j
      · rw [if_pos e2]
        have : colJ s neg1 p j (r - 1) ≤ p j := by
          have L := colJ_lead (s := s) h j (by omega)
          have := lead_le L.1 (r - 1)
          rw [L.2] at this
          exact this
        omega
      · rw [if_neg e2]
        omega
end MX

namespace MX
/-! inversions and thresholds: plain lists -/
def invP : List Int → List (Int × Int)
  | [] => []
  | x :: xs => ((xs.filter fun z => decide (z < x)).map fun z => (z, x)) ++ invP xs
theorem invP_snoc (y : Int) : ∀ row : List Int, (invP (row ++ [y])).Perm (invP row ++ (row.filter fun z => decide (y < z)).map fun z => (y, z))
  | [] => List.Perm.refl _
  | x :: xs => by
    have ih := invP_snoc y xs
    show (((xs ++ [y]).filter fun z => decide (z < x)).map (fun z => (z, x)) ++ invP (xs ++ [y])).Perm _
    rw [List.filter_append, List.map_append]
    by_cases h : y < x
    · rw [show ([y].filter fun z => decide (z < x)) = [y] by simp [h], List.filter_cons_of_pos (by simpa using h)]
      show _root_.List.Perm _ ((((xs.filter fun z => decide (z < x)).map fun z => (z, x)) ++ invP xs) ++ ((y, x) :: (xs.filter fun z => decide (y < z)).map fun z => (y, z)))
      rw [List.append_assoc, List.append_assoc]
      refine List.Perm.append_left _ ?_
      show ((y, x) :: invP (xs ++ [y])).Perm _
      exact (ih.cons _).trans List.perm_middle.symm
    · rw [show ([y].filter fun z => decide (z < x)) = [] by simp [h], List.filter_cons_of_neg (by simpa using h)]
      show _root_.List.Perm _ ((((xs.filter fun z => decide (z < x)).map fun z => (z, x)) ++ invP xs) ++ ((xs.filter fun z => decide (y < z)).map fun z => (y, z)))
      rw [List.map_nil, List.append_nil, List.append_assoc]
      exact List.Perm.append_left _ ih
theorem invP_len : ∀ row : List Int, (invP row).length ≤ row.length * row.length
  | [] => Nat.le_refl _
  | x :: xs => by
    have ih := invP_len xs
    have h := List.length_filter_le (fun z => decide (z < x)) xs
    simp only [invP, List.length_append, List.length_map, List.length_cons]
    rw [Nat.add_mul, Nat.mul_add]; omega
theorem invP_mem : ∀ (row : List Int) (p : Int × Int), p ∈ invP row → p.1 ∈ row ∧ p.2 ∈ row
  | [], _, h => nomatch h
  | x :: xs, p, h => by
    rcases List.mem_append.mp h with h | h
    · obtain ⟨z, hz, rfl⟩ := List.mem_map.mp h
      exact ⟨List.mem_cons_of_mem _ (List.mem_filter.mp hz).1, List.mem_cons_self⟩
    · have := invP_mem xs p h
      exact ⟨List.mem_cons_of_mem _ this.1, List.mem_cons_of_mem _ this.2⟩
def asc (row : List Int) : List Int := row.mergeSort fun a b => decide (a ≤ b)
theorem asc_perm (row : List Int) : (asc row).Perm row := List.mergeSort_perm _ _
theorem asc_le (row : List Int) : (asc row).Pairwise (· ≤ ·) := by
  have h := List.pairwise_mergeSort (le := fun a b : Int => decide (a ≤ b)) (by intro a b c; simp; omega) (by intro a b; simp; omega) row
  exact h.imp fun {a b} q => by simpa using q
theorem asc_uniq {row ds : List Int} (hp : ds.Perm row) (hs : ds.Pairwise (· ≤ ·)) : ds = asc row :=
  (hp.trans (asc_perm row).symm).eq_of_pairwise (fun _ _ _ _ h1 h2 => Int.le_antisymm h1 h2) hs (asc_le row)
def thr (row : List Int) : List Int := (asc row).dropLast
/-- the thresholds: keys below some key -/
theorem thr_iff {row : List Int} (hn : row.Nodup) (t : Int) : t ∈ thr row ↔ t ∈ row ∧ ∃ z ∈ row, t < z := by
  have hs := asc_le row
  have hp := asc_perm row
  have hnd : (asc row).Nodup := hp.nodup_iff.mpr hn
  unfold thr
  generalize asc row = l at hs hp hnd
  rcases List.eq_nil_or_concat l with e | ⟨ini, last, e⟩
  · subst e
    have : row = [] := List.Perm.eq_nil hp.symm
    subst this
    simp
  · subst e
    rw [List.concat_eq_append] at *
    rw [List.dropLast_concat]
    have h1 := List.pairwise_append.mp hs
    have h2 := List.nodup_append.mp hnd
    constructor
    · intro ht
      refine ⟨hp.mem_iff.mp (List.mem_append_left _ ht), last, hp.mem_iff.mp (by simp), ?_⟩
      have a := h1.2.2 t ht last (by simp)
      have b := h2.2.2 t ht last (by simp)
      omega
    · rintro ⟨ht, z, hz, hlt⟩
      rcases List.mem_append.mp (hp.mem_iff.mpr ht) with q | q
      · exact q
      · rw [List.mem_singleton] at q
        subst q
        exfalso
        rcases List.mem_append.mp (hp.mem_iff.mpr hz) with r | r
        · have := h1.2.2 z r t (by simp); omega
        · rw [List.mem_singleton] at r; omega
/-- the places of the light keys -/
def lights (row : List Int) (t : Int) : List Int := ((List.range row.length).filter fun i => decide (row.getD i 0 ≤ t)).map fun (i : Nat) => (i : Int)
end MX

namespace MX
/-! when a row is sorted -/
abbrev Sorted (row : List Int) : Prop := row.Pairwise (· ≤ ·)
/-- the first places -/
def first (m : Nat) : List Int := (List.range m).map fun (i : Nat) => (i : Int)
theorem ltF_map_succ (t : Int) : ∀ (l : List Int) (p : Nat), ltF t (p + 1) l = (ltF t p l).map (· + 1)
  | [], _ => rfl
  | x :: xs, p => by
    have ih := ltF_map_succ t xs (p + 1)
    unfold ltF
    split
    · rw [ih, List.map_cons]; rfl
    · exact ih
theorem first_succ (m : Nat) : first (m + 1) = 0 :: (first m).map (· + 1) := by
  unfold first
  rw [List.range_succ_eq_map, List.map_cons, List.map_map, List.map_map]
  rfl
theorem first_len (m : Nat) : (first m).length = m := by simp [first]
theorem first_at (m i : Nat) (h : i < m) : (first m)[i]? = some (i : Int) := by
  unfold first
  rw [List.getElem?_map, List.getElem?_range h]; rfl
theorem mem_first (m : Nat) (q : Int) : q ∈ first m ↔ 0 ≤ q ∧ q < m := by
  unfold first
  rw [List.mem_map]
  constructor
  · rintro ⟨i, h, rfl⟩
    have := List.mem_range.mp h
    omega
  · rintro ⟨h1, h2⟩
    exact ⟨q.toNat, List.mem_range.mpr (by omega), by omega⟩
theorem lt_none {t : Int} : ∀ (l : List Int) (p : Nat), (∀ z ∈ l, t < z) → ltF t p l = []
  | [], _, _ => rfl
  | x :: xs, p, h => by
    unfold ltF
    rw [if_neg (by have := h x (by simp); omega)]
    exact lt_none xs (p + 1) fun z hz => h z (List.mem_cons_of_mem _ hz)
theorem lt_sorted {t : Int} : ∀ (l : List Int), Sorted l → ∃ m, ltF t 0 l = first m
  | [], _ => ⟨0, rfl⟩
  | x :: xs, h => by
    obtain ⟨h1, h2⟩ := List.pairwise_cons.mp h
    by_cases hx : x ≤ t
    · obtain ⟨m, e⟩ := lt_sorted (t := t) xs h2
      refine ⟨m + 1, ?_⟩
      unfold ltF
      rw [if_pos hx, ltF_map_succ, e, first_succ]
      rfl
    · refine ⟨0, lt_none _ _ fun z hz => ?_⟩
      rcases List.mem_cons.mp hz with e | e
      · omega
      · have := h1 z e; omega
/-- a row is sorted if for each of its keys the light keys are at the first places -/
theorem sorted_of_first {row : List Int} (h : ∀ t ∈ row, ∃ m, ltF t 0 row = first m) : Sorted row := by
  rw [Sorted, List.pairwise_iff_getElem]
  intro i j hi hj hij
  obtain ⟨m, e⟩ := h row[j] (List.getElem_mem hj)
  have h1 : ((0 + j : Nat) : Int) ∈ ltF row[j] 0 row := (mem_ltF _ _ _ _).mpr ⟨hj, Int.le_refl _⟩
  rw [e, mem_first] at h1
  have h2 : ((0 + i : Nat) : Int) ∈ ltF row[j] 0 row := by rw [e, mem_first]; omega
  obtain ⟨_, h3⟩ := (mem_ltF _ _ _ _).mp h2
  exact h3
theorem sorted_iff (row : List Int) : Sorted row ↔ ∀ t ∈ row, ∃ m, ltF t 0 row = first m :=
  ⟨fun h _ _ => lt_sorted row h, sorted_of_first⟩
theorem places_of {ps : List Int} (h : ps.Pairwise (· < ·)) (h0 : ∀ b ∈ ps, 0 ≤ b) : Places ps.length fun i => ps.getD i 0 := by
  constructor
  · cases ps with
    | nil => exact Int.le_refl _
    | cons x xs => exact h0 x (by simp)
  · intro j hj
    have := List.pairwise_iff_getElem.mp h j (j + 1) (by omega) hj (by omega)
    show ps.getD j 0 < ps.getD (j + 1) 0
    rw [List.getD_eq_getElem?_getD, List.getD_eq_getElem?_getD, List.getElem?_eq_getElem (by omega), List.getElem?_eq_getElem hj]
    exact this
theorem places_lt (row : List Int) (t : Int) : Places (ltF t 0 row).length fun i => (ltF t 0 row).getD i 0 :=
  places_of (ltF_asc t row 0) fun b hb => by have := ltF_bd t row 0 b hb; omega
/-- the delays of light keys that are not home -/
def dls (s m : Nat) : Nat → List Int → List Int
  | _, [] => []
  | j, p :: ps => if p = (j : Int) then dls s m (j + 1) ps else dly s m j p :: dls s m (j + 1) ps
def gmax (l : List Int) : Int := l.foldl max 0
theorem foldl_max_le : ∀ (l : List Int) (a z : Int), l.foldl max a ≤ z ↔ a ≤ z ∧ ∀ x ∈ l, x ≤ z
  | [], a, z => by simp
  | x :: xs, a, z => by
    rw [List.foldl_cons, foldl_max_le xs]
    simp only [List.mem_cons, forall_eq_or_imp]
    constructor
    · rintro ⟨h1, h2⟩; exact ⟨by omega, by omega, h2⟩
    · rintro ⟨h1, h2, h3⟩; exact ⟨by omega, h3⟩
theorem gmax_le (l : List Int) (z : Int) : gmax l ≤ z ↔ 0 ≤ z ∧ ∀ x ∈ l, x ≤ z := foldl_max_le l 0 z
theorem gmax_nn (l : List Int) : 0 ≤ gmax l := ((gmax_le l _).mp (Int.le_refl _)).1
theorem gmax_ge {l : List Int} {x : Int} (h : x ∈ l) : x ≤ gmax l := ((gmax_le l _).mp (Int.le_refl _)).2 x h
theorem gmax_mem : ∀ (l : List Int), gmax l = 0 ∨ gmax l ∈ l := by
  have h : ∀ (l : List Int) (a : Int), l.foldl max a = a ∨ l.foldl max a ∈ l := by
    intro l
    induction l with
    | nil => intro a; exact .inl rfl
    | cons x xs ih =>
      intro a
      rw [List.foldl_cons]
      rcases ih (max a x) with e | e
      · rw [e]
        by_cases h : a ≤ x
        · rw [Int.max_eq_right h]; exact .inr (by simp)
        · rw [Int.max_eq_left (by omega)]; exact .inl rfl
      · exact .inr (List.mem_cons_of_mem _ e)
  exact fun l => h l 0
/-- the rounds of a threshold with light places ps -/
def trd (s : Nat) (ps : List Int) : Int := gmax (dls s ps.length 0 ps)
theorem mem_dls (s m : Nat) : ∀ (ps : List Int) (j : Nat) (d : Int), d ∈ dls s m j ps ↔ ∃ i, ∃ h : i < ps.length, ps[i] ≠ ((j + i : Nat) : Int) ∧ d = dly s m (j + i) ps[i]
  | [], j, d => by simp [dls]
  | p :: ps, j, d => by
    have ih := mem_dls s m ps (j + 1) d
    have e1 : (∃ i, ∃ h : i < (p :: ps).length, (p :: ps)[i] ≠ ((j + i : Nat) : Int) ∧ d = dly s m (j + i) (p :: ps)[i]) ↔ ((p ≠ (j : Int) ∧ d = dly s m j p) ∨ ∃ i, ∃ h : i < ps.length, ps[i] ≠ ((j + 1 + i : Nat) : Int) ∧ d = dly s m (j + 1 + i) ps[i]) := by
      constructor
      · rintro ⟨i, h, q⟩
        cases i with
        | zero => exact .inl q
        | succ i =>
          refine .inr ⟨i, by simpa using h, ?_⟩
          rw [show j + 1 + i = j + (i + 1) by omega]
          exact q
      · rintro (q | ⟨i, h, q⟩)
        · exact ⟨0, by simp, q⟩
        · refine ⟨i + 1, by simpa using h, ?_⟩
          rw [show j + 1 + i = j + (i + 1) by omega] at q
          exact q
    rw [e1, ← ih]
    show d ∈ (if p = (j : Int) then dls s m (j + 1) ps else dly s m j p :: dls s m (j + 1) ps) ↔ _
    split
    · rename_i h
      constructor
      · exact .inr
      · rintro (q | q)
        · exact absurd h q.1
        · exact q
    · rename_i h
      rw [List.mem_cons]
      constructor
      · rintro (q | q)
        · exact .inl ⟨h, q⟩
        · exact .inr q
      · rintro (q | q)
        · exact .inl q.2
        · exact .inr q
theorem trd_le (s : Nat) (ps : List Int) (z : Int) : trd s ps ≤ z ↔ 0 ≤ z ∧ ∀ j (h : j < ps.length), ps[j] ≠ (j : Int) → dly s ps.length j ps[j] ≤ z := by
  unfold trd
  rw [gmax_le]
  constructor
  · rintro ⟨h0, h⟩
    refine ⟨h0, fun j hj hne => h _ ((mem_dls _ _ _ _ _).mpr ⟨j, hj, by simpa using hne, by simp⟩)⟩
  · rintro ⟨h0, h⟩
    refine ⟨h0, fun d hd => ?_⟩
    obtain ⟨i, hi, hne, rfl⟩ := (mem_dls _ _ _ _ _).mp hd
    have := h i hi (by simpa using hne)
    simpa using this
theorem getD_at {ps : List Int} {j : Nat} (h : j < ps.length) : ps.getD j 0 = ps[j] := by
  rw [List.getD_eq_getElem?_getD, List.getElem?_eq_getElem h]; rfl
/-- the light keys are at the first places exactly from the greatest delay on -/
theorem first_run (s r : Nat) (row : List Int) (t : Int) : (∃ m, ltF t 0 (run s r row) = first m) ↔ trd s (ltF t 0 row) ≤ r := by
  have hP := places_lt row t
  have hr := lt_run s row t r
  rw [trd_le]
  generalize hps : ltF t 0 row = ps at *
  have hl : ((cols s neg1 ps).map (· r)).length = ps.length := by rw [List.length_map, cols_len]
  have hat : ∀ j, j < ps.length → ((cols s neg1 ps).map (· r))[j]? = some (colJ s neg1 (fun i => ps.getD i 0) j r) := fun j hj => by
    rw [List.getElem?_map, cols_at s ps neg1 j hj]; rfl
  have h1 : (∃ m, ltF t 0 (run s r row) = first m) ↔ ∀ j, j < ps.length → colJ s neg1 (fun i => ps.getD i 0) j r = j := by
    rw [hr]
    constructor
    · rintro ⟨m, e⟩ j hj
      have hm : m = ps.length := by rw [← hl, e, first_len]
      have h2 := hat j hj
      rw [e, first_at m j (by omega)] at h2
      exact (Option.some.inj h2).symm
    · intro h
      refine ⟨ps.length, List.ext_getElem? fun j => ?_⟩
      rcases Nat.lt_or_ge j ps.length with hj | hj
      · rw [hat j hj, h j hj, first_at _ j hj]
      · rw [List.getElem?_eq_none (by omega), List.getElem?_eq_none (by rw [first_len]; exact hj)]
  rw [h1, home_iff hP]
  constructor
  · intro h
    refine ⟨by omega, fun j hj hne => ?_⟩
    have := h j hj (by show ps.getD j 0 ≠ _; rw [getD_at hj]; exact hne)
    rw [getD_at hj] at this
    exact this
  · rintro ⟨_, h⟩ j hj hne
    have hne : ps.getD j 0 ≠ j := hne
    rw [getD_at hj] at hne
    show dly s ps.length j (ps.getD j 0) ≤ r
    rw [getD_at hj]
    exact h j hj hne
/-- the needed rounds of a row -/
def need (s : Nat) (row : List Int) : Int := gmax (row.map fun t => trd s (ltF t 0 row))
theorem need_nn (s : Nat) (row : List Int) : 0 ≤ need s row := gmax_nn _
theorem need_le (s : Nat) (row : List Int) (z : Int) : need s row ≤ z ↔ 0 ≤ z ∧ ∀ t ∈ row, trd s (ltF t 0 row) ≤ z := by
  unfold need
  rw [gmax_le]
  simp
/-- a row is sorted exactly from its needed rounds on -/
theorem sorted_run (s r : Nat) (row : List Int) : Sorted (run s r row) ↔ need s row ≤ r := by
  rw [sorted_iff, need_le]
  constructor
  · intro h
    refine ⟨by omega, fun t ht => (first_run s r row t).mp (h t ((run_perm s row r).mem_iff.mpr ht))⟩
  · rintro ⟨_, h⟩ t ht
    exact (first_run s r row t).mpr (h t ((run_perm s row r).mem_iff.mp ht))
theorem dly_le {s : Nat} {ps : List Int} {n : Nat} (hp : ps.Pairwise (· < ·)) (hb : ∀ b ∈ ps, b < (n : Int)) (j : Nat) (hj : j < ps.length) : dly s ps.length j ps[j] ≤ (n : Int) - j - 1 + wt s ps[j] := by
  have h : ∀ k, j + k < ps.length → ∃ h : j + k < ps.length, ps[j] + k ≤ ps[j + k] := by
    intro k
    induction k with
    | zero => intro h; exact ⟨h, by simp⟩
    | succ k ih =>
      intro h
      obtain ⟨h1, h2⟩ := ih (by omega)
      refine ⟨h, ?_⟩
      have := List.pairwise_iff_getElem.mp hp (j + k) (j + (k + 1)) h1 h (by omega)
      omega
  obtain ⟨h1, h2⟩ := h (ps.length - 1 - j) (by omega)
  have h3 := hb _ (List.getElem_mem h1)
  unfold dly
  omega
/-- as many rounds as places are always enough -/
theorem trd_le_len (s : Nat) (row : List Int) (t : Int) : trd s (ltF t 0 row) ≤ row.length := by
  rw [trd_le]
  refine ⟨by omega, fun j hj _ => ?_⟩
  have h1 := dly_le (s := s) (ltF_asc t row 0) (n := row.length) (fun b hb => by have := ltF_bd t row 0 b hb; omega) j hj
  have h2 := wt_01 s (ltF t 0 row)[j]
  omega
theorem need_le_len (s : Nat) (row : List Int) : need s row ≤ row.length := by
  rw [need_le]
  exact ⟨by omega, fun t _ => trd_le_len s row t⟩
theorem sorted_asc {row a : List Int} (hp : a.Perm row) (hs : Sorted a) : a = asc row := asc_uniq hp hs
/-- from the number of places on the row is the ascending one -/
theorem run_asc {s r : Nat} {row : List Int} (h : need s row ≤ r) : run s r row = asc row :=
  sorted_asc (run_perm s row r) ((sorted_run s r row).mpr h)
theorem run_full {s r : Nat} {row : List Int} (h : row.length ≤ r) : run s r row = asc row :=
  run_asc (by have := need_le_len s row; omega)
/-- both starts differ by at most 1 -/
theorem trd_starts (s s' : Nat) (ps : List Int) : trd s ps ≤ trd s' ps + 1 := by
  have h := (trd_le s' ps _).mp (Int.le_refl _)
  rw [trd_le]
  refine ⟨by omega, fun j hj hne => ?_⟩
  have h1 := h.2 j hj hne
  have h2 := wt_01 s ps[j]
  have h3 := wt_01 s' ps[j]
  unfold dly at *
  omega
theorem need_starts (s s' : Nat) (row : List Int) : need s row ≤ need s' row + 1 := by
  have h := (need_le s' row _).mp (Int.le_refl _)
  rw [need_le]
  refine ⟨by omega, fun t ht => ?_⟩
  have h1 := h.2 t ht
  have h2 := trd_starts s s' (ltF t 0 row)
  omega
/-- one round later, with the other start, one round less -/
theorem need_run (s a : Nat) (row : List Int) : need ((s + a) % 2) (run s a row) = max 0 (need s row - a) := by
  have h : ∀ b : Nat, need ((s + a) % 2) (run s a row) ≤ b ↔ need s row - a ≤ b := by
    intro b
    have h1 := sorted_run ((s + a) % 2) b (run s a row)
    have h2 := sorted_run s (a + b) row
    rw [run_add] at h2
    rw [← h1, h2]
    omega
  have n1 := need_nn ((s + a) % 2) (run s a row)
  have h1 := h (need ((s + a) % 2) (run s a row)).toNat
  have h2 := h (max 0 (need s row - a)).toNat
  omega
/-- a sorted row stays -/
theorem run_sorted {s r : Nat} {row : List Int} (h : Sorted row) : run s r row = row := by
  have h0 : need s row ≤ 0 := (sorted_run s 0 row).mp h
  rw [run_asc (by omega)]
  exact (sorted_asc (List.Perm.refl _) h).symm
theorem need_zero (s : Nat) (row : List Int) : need s row = 0 ↔ Sorted row := by
  have := need_nn s row
  have h := sorted_run s 0 row
  constructor
  · intro e; exact h.mpr (by omega)
  · intro e; have := h.mp e; omega
end MX

namespace MX
/-! ranks and mirrors of rows: plain lists -/
def sm (row : List Int) (k : Int) : Nat := (row.filter fun z => decide (z < k)).length
def desc (row : List Int) : List Int := row.mergeSort fun a b => decide (b ≤ a)
def flip (row : List Int) (k : Int) : Int := (desc row).getD (sm row k) 0
def mir (row : List Int) : List Int := row.reverse.map (flip row)
theorem sm_perm {a b : List Int} (h : a.Perm b) (k : Int) : sm a k = sm b k := (h.filter _).length_eq
theorem desc_perm (row : List Int) : (desc row).Perm row := List.mergeSort_perm _ _
theorem desc_ge (row : List Int) : (desc row).Pairwise (· ≥ ·) := by
  have h := List.pairwise_mergeSort (le := fun a b : Int => decide (b ≤ a)) (by intro a b c; simp; omega) (by intro a b; simp; omega) row
  exact h.imp fun {a b} q => by simpa using q
theorem desc_uniq {row ds : List Int} (hp : ds.Perm row) (hs : ds.Pairwise (· ≥ ·)) : ds = desc row :=
  (hp.trans (desc_perm row).symm).eq_of_pairwise (fun x y _ _ h1 h2 => Int.le_antisymm h2 h1) hs (desc_ge row)
theorem desc_gt {row : List Int} (hn : row.Nodup) : (desc row).Pairwise (· > ·) := by
  have h1 := desc_ge row
  have h2 : (desc row).Nodup := (desc_perm row).nodup_iff.mpr hn
  exact (h1.and h2).imp fun {a b} q => by have := q.1; have := q.2; omega
theorem sm_desc : ∀ (ds : List Int), ds.Pairwise (· > ·) → ∀ (j : Nat) (h : j < ds.length), sm ds ds[j] = ds.length - 1 - j
  | [], _, _, h => by simp at h
  | x :: xs, hp, 0, _ => by
    have h := (List.pairwise_cons.mp hp).1
    show ((x :: xs).filter fun z => decide (z < x)).length = _
    rw [List.filter_cons_of_neg (by simp), List.filter_eq_self.mpr (fun z hz => by simpa using h z hz)]
    simp
  | x :: xs, hp, j + 1, h => by
    have h1 := (List.pairwise_cons.mp hp).1
    have hj : j < xs.length := by simpa using h
    have ih := sm_desc xs (List.pairwise_cons.mp hp).2 j hj
    show ((x :: xs).filter fun z => decide (z < xs[j])).length = _
    rw [List.filter_cons_of_neg (by have := h1 xs[j] (List.getElem_mem hj); simp; omega)]
    show sm xs xs[j] = _
    rw [ih]
    simp only [List.length_cons]
    omega
theorem at_desc {row : List Int} (hn : row.Nodup) {k : Int} (hk : k ∈ row) : ∃ (j : Nat) (h : j < (desc row).length), (desc row)[j] = k ∧ sm row k = row.length - 1 - j := by
  obtain ⟨j, h, e⟩ := List.getElem_of_mem ((desc_perm row).mem_iff.mpr hk)
  refine ⟨j, h, e, ?_⟩
  have := sm_desc _ (desc_gt hn) j h
  rw [e, sm_perm (desc_perm row), (desc_perm row).length_eq] at this
  exact this
theorem sm_lt {row : List Int} (hn : row.Nodup) {k : Int} (hk : k ∈ row) : sm row k < row.length := by
  obtain ⟨j, h, _, e⟩ := at_desc hn hk
  rw [(desc_perm row).length_eq] at h
  omega
theorem flip_at {row : List Int} (hn : row.Nodup) {k : Int} (hk : k ∈ row) : (desc row)[sm row k]? = some (flip row k) := by
  have h : sm row k < (desc row).length := by rw [(desc_perm row).length_eq]; exact sm_lt hn hk
  unfold flip
  rw [List.getD_eq_getElem?_getD, List.getElem?_eq_getElem h]; rfl
theorem flip_mem {row : List Int} (hn : row.Nodup) {k : Int} (hk : k ∈ row) : flip row k ∈ row :=
  (desc_perm row).mem_iff.mp (List.mem_of_getElem? (flip_at hn hk))
theorem sm_flip {row : List Int} (hn : row.Nodup) {k : Int} (hk : k ∈ row) : sm row (flip row k) + sm row k + 1 = row.length := by
  obtain ⟨h, e⟩ := List.getElem?_eq_some_iff.mp (flip_at hn hk)
  have h1 := sm_desc _ (desc_gt hn) _ h
  rw [e, sm_perm (desc_perm row), (desc_perm row).length_eq] at h1
  rw [(desc_perm row).length_eq] at h
  omega
theorem sm_inj {row : List Int} (hn : row.Nodup) {a b : Int} (ha : a ∈ row) (hb : b ∈ row) (h : sm row a = sm row b) : a = b := by
  obtain ⟨i, hi, ei, si⟩ := at_desc hn ha
  obtain ⟨j, hj, ej, sj⟩ := at_desc hn hb
  have hl := (desc_perm row).length_eq
  have : i = j := by omega
  subst this
  exact ei.symm.trans ej
theorem flip_flip {row : List Int} (hn : row.Nodup) {k : Int} (hk : k ∈ row) : flip row (flip row k) = k := by
  have h1 := sm_flip hn hk
  have h2 := sm_flip hn (flip_mem hn hk)
  exact sm_inj hn (flip_mem hn (flip_mem hn hk)) hk (by omega)
theorem filter_flip {row : List Int} (hn : row.Nodup) {k : Int} (hk : k ∈ row) : (row.filter fun z => decide ((row.length : Int) - 1 - (sm row z : Int) = (sm row k : Int))) = [flip row k] := by
  have h1 : (row.filter fun z => decide ((row.length : Int) - 1 - (sm row z : Int) = (sm row k : Int))) = row.filter (· == flip row k) := by
    refine List.filter_congr fun z hz => ?_
    have e1 := sm_flip hn hk
    have e2 := sm_lt hn hz
    rw [Bool.eq_iff_iff, decide_eq_true_eq, beq_iff_eq]
    constructor
    · intro q
      exact sm_inj hn hz (flip_mem hn hk) (by omega)
    · intro q
      subst q
      omega
  rw [h1, List.filter_beq, hn.count, if_pos (flip_mem hn hk)]; rfl
theorem mir_mem {row : List Int} (hn : row.Nodup) (k : Int) : k ∈ mir row ↔ k ∈ row := by
  unfold mir
  rw [List.mem_map]
  constructor
  · rintro ⟨z, hz, rfl⟩
    exact flip_mem hn (List.mem_reverse.mp hz)
  · intro hk
    exact ⟨flip row k, List.mem_reverse.mpr (flip_mem hn hk), flip_flip hn hk⟩
theorem mir_nodup {row : List Int} (hn : row.Nodup) : (mir row).Nodup := by
  unfold mir
  rw [List.Nodup, List.pairwise_map]
  have h : row.reverse.Nodup := (List.reverse_perm row).nodup_iff.mpr hn
  refine List.Pairwise.imp_of_mem ?_ h
  intro a b ha hb hab e
  apply hab
  have := congrArg (flip row) e
  rw [flip_flip hn (List.mem_reverse.mp ha), flip_flip hn (List.mem_reverse.mp hb)] at this
  exact this
theorem mir_perm {row : List Int} (hn : row.Nodup) : (mir row).Perm row := by
  rw [List.perm_iff_count]
  intro a
  rw [(mir_nodup hn).count, hn.count]
  simp [mir_mem hn]
theorem mir_len (row : List Int) : (mir row).length = row.length := by unfold mir; simp
theorem mir_mir {row : List Int} (hn : row.Nodup) : mir (mir row) = row := by
  have hp := mir_perm hn
  have hd : desc (mir row) = desc row := (desc_uniq ((desc_perm _).trans hp) (desc_ge _))
  have hf : flip (mir row) = flip row := by
    funext k; unfold flip; rw [hd, sm_perm hp]
  show (mir row).reverse.map (flip (mir row)) = row
  rw [hf]
  unfold mir
  rw [← List.map_reverse, List.reverse_reverse, List.map_map]
  conv => rhs; rw [← List.map_id row]
  refine List.map_congr_left fun k hk => ?_
  exact flip_flip hn hk
/-- the place of a key in the ascending list -/
theorem asc_at : ∀ (asc : List Int), asc.Pairwise (· < ·) → ∀ k ∈ asc, asc[sm asc k]? = some k
  | [], _, _, h => nomatch h
  | x :: xs, hp, k, hk => by
    have h1 := (List.pairwise_cons.mp hp).1
    rcases List.mem_cons.mp hk with e | hk
    · subst e
      have : sm (k :: xs) k = 0 := by
        show ((k :: xs).filter fun z => decide (z < k)).length = 0
        rw [List.filter_cons_of_neg (by simp), List.filter_eq_nil_iff.mpr (fun z hz => by have := h1 z hz; simp; omega)]; rfl
      rw [this]; rfl
    · have hx := h1 k hk
      have : sm (x :: xs) k = sm xs k + 1 := by
        show ((x :: xs).filter fun z => decide (z < k)).length = _
        rw [List.filter_cons_of_pos (by simpa using hx)]; rfl
      rw [this]
      exact asc_at xs (List.pairwise_cons.mp hp).2 k hk
theorem asc_lt {asc row : List Int} (hp : asc.Perm row) (hs : asc.Pairwise (· ≤ ·)) (hn : row.Nodup) : asc.Pairwise (· < ·) :=
  (hs.and (hp.nodup_iff.mpr hn)).imp fun {a b} q => by have := q.1; have := q.2; omega
end MX

namespace MX
/-! inversions, round by round -/
abbrev invA (x : Int) (l : List Int) : List (Int × Int) := (l.filter fun z => decide (z < x)).map fun z => (z, x)
theorem invA_perm (x : Int) {a b : List Int} (h : a.Perm b) : (invA x a).Perm (invA x b) := (h.filter _).map _
/-- the exchanged pairs of a round: (smaller, greater) -/
def exP (C : Nat → Bool) : Nat → List Int → List (Int × Int)
  | _, [] => []
  | _, [_] => []
  | p, x :: y :: t => if C p then (if y < x then (y, x) :: exP C (p + 2) t else exP C (p + 2) t) else exP C (p + 1) (y :: t)
theorem inv_cons (x : Int) (l : List Int) : invP (x :: l) = invA x l ++ invP l := rfl
/-- a round takes away the inversions of the exchanged pairs, and adds none -/
theorem inv_go (C : Nat → Bool) : ∀ (p : Nat) (l : List Int), (invP l).Perm (exP C p l ++ invP (go C p l))
  | _, [] => List.Perm.refl _
  | _, [x] => List.Perm.refl _
  | p, x :: y :: t => by
    unfold go exP
    by_cases hc : C p = true
    · rw [if_pos hc, if_pos hc]
      have ih := inv_go C (p + 2) t
      have hg := (go_perm C (p + 2) t).symm
      by_cases h : y < x
      · rw [if_pos h, Int.min_eq_right (by omega), Int.max_eq_left (by omega)]
        have e1 : invP (x :: y :: t) = (y, x) :: (invA x t ++ (invA y t ++ invP t)) := by
          rw [inv_cons, inv_cons]
          show ((List.filter _ (y :: t)).map _) ++ _ = _
          rw [List.filter_cons_of_pos (by simpa using h)]; rfl
        have e2 : invP (y :: x :: go C (p + 2) t) = invA y (go C (p + 2) t) ++ (invA x (go C (p + 2) t) ++ invP (go C (p + 2) t)) := by
          rw [inv_cons, inv_cons]
          show ((List.filter _ (x :: _)).map _) ++ _ = _
          rw [List.filter_cons_of_neg (by simp; omega)]
        rw [e1, e2, List.cons_append]
        refine List.Perm.cons _ ?_
        have h1 : (invA x t ++ (invA y t ++ invP t)).Perm (invA y t ++ (invA x t ++ invP t)) := by
          rw [← List.append_assoc, ← List.append_assoc]
          exact List.perm_append_comm.append_right _
        refine h1.trans ?_
        have h2 : (invA y t ++ (invA x t ++ invP t)).Perm (invA y (go C (p + 2) t) ++ (invA x (go C (p + 2) t) ++ (exP C (p + 2) t ++ invP (go C (p + 2) t)))) :=
          (invA_perm y hg).append ((invA_perm x hg).append ih)
        refine h2.trans ?_
        rw [← List.append_assoc, ← List.append_assoc, ← List.append_assoc]
        refine ((List.perm_append_comm (l₁ := invA y (go C (p + 2) t) ++ invA x (go C (p + 2) t)) (l₂ := exP C (p + 2) t)).append_right _).trans ?_
        rw [← List.append_assoc, ← List.append_assoc]
      · rw [if_neg h, Int.min_eq_left (by omega), Int.max_eq_right (by omega)]
        have e1 : invP (x :: y :: t) = invA x t ++ (invA y t ++ invP t) := by
          rw [inv_cons, inv_cons]
          show ((List.filter _ (y :: t)).map _) ++ _ = _
          rw [List.filter_cons_of_neg (by simpa using h)]
        have e2 : invP (x :: y :: go C (p + 2) t) = invA x (go C (p + 2) t) ++ (invA y (go C (p + 2) t) ++ invP (go C (p + 2) t)) := by
          rw [inv_cons, inv_cons]
          show ((List.filter _ (y :: _)).map _) ++ _ = _
          rw [List.filter_cons_of_neg (by simpa using h)]
        rw [e1, e2]
        have h2 : (invA x t ++ (invA y t ++ invP t)).Perm (invA x (go C (p + 2) t) ++ (invA y (go C (p + 2) t) ++ (exP C (p + 2) t ++ invP (go C (p + 2) t)))) :=
          (invA_perm x hg).append ((invA_perm y hg).append ih)
        refine h2.trans ?_
        rw [← List.append_assoc, ← List.append_assoc, ← List.append_assoc]
        refine ((List.perm_append_comm (l₁ := invA x (go C (p + 2) t) ++ invA y (go C (p + 2) t)) (l₂ := exP C (p + 2) t)).append_right _).trans ?_
        rw [← List.append_assoc, ← List.append_assoc]
    · rw [if_neg hc, if_neg hc]
      have ih := inv_go C (p + 1) (y :: t)
      have hg := (go_perm C (p + 1) (y :: t)).symm
      rw [inv_cons x (y :: t), inv_cons x (go C (p + 1) (y :: t))]
      have h2 : (invA x (y :: t) ++ invP (y :: t)).Perm (invA x (go C (p + 1) (y :: t)) ++ (exP C (p + 1) (y :: t) ++ invP (go C (p + 1) (y :: t)))) := (invA_perm x hg).append ih
      refine h2.trans ?_
      rw [← List.append_assoc, ← List.append_assoc]
      exact List.perm_append_comm.append_right _
/-- the exchanged places, ascending -/
def exN (C : Nat → Bool) (row : List Int) : List Nat := (List.range (row.length - 1)).filter fun p => C p && decide (row.getD (p + 1) 0 < row.getD p 0)
def exF (C : Nat → Bool) : Nat → List Int → List Nat
  | _, [] => []
  | _, [_] => []
  | p, x :: y :: t => if C p && decide (y < x) then p :: exF C (p + 1) (y :: t) else exF C (p + 1) (y :: t)
theorem exF_eq (C : Nat → Bool) : ∀ (l : List Int) (p : Nat), exF C p l = ((List.range (l.length - 1)).filter fun i => C (p + i) && decide (l.getD (i + 1) 0 < l.getD i 0)).map (p + ·)
  | [], _ => rfl
  | [_], _ => rfl
  | x :: y :: t, p => by
    have ih := exF_eq C (y :: t) (p + 1)
    show (if C p && decide (y < x) then p :: exF C (p + 1) (y :: t) else exF C (p + 1) (y :: t)) = ((List.range ((y :: t).length - 1 + 1)).filter _).map _
    rw [ih, List.range_succ_eq_map]
    have e : ((List.map Nat.succ (List.range ((y :: t).length - 1))).filter fun i => C (p + i) && decide ((x :: y :: t).getD (i + 1) 0 < (x :: y :: t).getD i 0)).map (p + ·) = ((List.range ((y :: t).length - 1)).filter fun i => C (p + 1 + i) && decide ((y :: t).getD (i + 1) 0 < (y :: t).getD i 0)).map (p + 1 + ·) := by
      rw [List.filter_map, List.map_map]
      have : ((fun i => C (p + i) && decide ((x :: y :: t).getD (i + 1) 0 < (x :: y :: t).getD i 0)) ∘ Nat.succ) = fun i => C (p + 1 + i) && decide ((y :: t).getD (i + 1) 0 < (y :: t).getD i 0) := by
        funext i
        show (C (p + (i + 1)) && decide ((x :: y :: t).getD (i + 1 + 1) 0 < (x :: y :: t).getD (i + 1) 0)) = _
        rw [show p + (i + 1) = p + 1 + i by omega]; rfl
      rw [this]
      refine List.map_congr_left fun i _ => ?_
      show p + (i + 1) = p + 1 + i
      omega
    by_cases h : (C p && decide (y < x)) = true
    · rw [if_pos h, List.filter_cons_of_pos (by simpa using h), List.map_cons, e]; rfl
    · rw [if_neg h, List.filter_cons_of_neg (by simpa using h), e]
theorem exP_len {C : Nat → Bool} (hC : ∀ q, C q = true → C (q + 1) = false) : ∀ (l : List Int) (p : Nat), (exP C p l).length = (exF C p l).length
  | [], _ => rfl
  | [_], _ => rfl
  | x :: y :: t, p => by
    unfold exP exF
    by_cases hc : C p = true
    · rw [if_pos hc, hc, Bool.true_and]
      have ih := exP_len hC t (p + 2)
      have e : exF C (p + 1) (y :: t) = exF C (p + 2) t := by
        cases t with
        | nil => rfl
        | cons z zs =>
          show (if C (p + 1) && decide (z < y) then _ else _) = _
          rw [hC p hc]; rfl
      rw [e]
      by_cases h : y < x
      · rw [if_pos h, if_pos (by simpa using h), List.length_cons, List.length_cons, ih]
      · rw [if_neg h, if_neg (by simpa using h), ih]
    · rw [if_neg hc, if_neg (by simp [hc])]
      exact exP_len hC (y :: t) (p + 1)
theorem exN_exF (C : Nat → Bool) (row : List Int) : exN C row = exF C 0 row := by
  rw [exF_eq]
  unfold exN
  have : (fun i => C (0 + i) && decide (row.getD (i + 1) 0 < row.getD i 0)) = fun p => C p && decide (row.getD (p + 1) 0 < row.getD p 0) := by funext i; rw [Nat.zero_add]
  rw [this]
  have : (fun i => 0 + i) = (id : Nat → Nat) := by funext i; simp
  rw [this, List.map_id]
/-- the pairs of the exchanged places -/
theorem exP_pairs {C : Nat → Bool} (hC : ∀ q, C q = true → C (q + 1) = false) : ∀ (l : List Int) (p : Nat) (g : Nat → Int), (∀ i (h : i < l.length), g (p + i) = l[i]) → exP C p l = (exF C p l).map fun q => (g (q + 1), g q)
  | [], _, _, _ => rfl
  | [_], _, _, _ => rfl
  | x :: y :: t, p, g, hg => by
    have g0 : g p = x := hg 0 (by simp)
    have g1 : g (p + 1) = y := hg 1 (by simp)
    unfold exP exF
    by_cases hc : C p = true
    · rw [if_pos hc, hc, Bool.true_and]
      have ih := exP_pairs hC t (p + 2) g (fun i h => by
        have := hg (i + 2) (by simpa using h)
        rw [show p + 2 + i = p + (i + 2) by omega, this]; rfl)
      have e : exF C (p + 1) (y :: t) = exF C (p + 2) t := by
        cases t with
        | nil => rfl
        | cons z zs =>
          show (if C (p + 1) && decide (z < y) then _ else _) = _
          rw [hC p hc]; rfl
      rw [e]
      by_cases h : y < x
      · rw [if_pos h, if_pos (by simpa using h), List.map_cons, ih, g0, g1]
      · rw [if_neg h, if_neg (by simpa using h), ih]
    · rw [if_neg hc, if_neg (by simp [hc])]
      exact exP_pairs hC (y :: t) (p + 1) g (fun i h => by
        have := hg (i + 1) (by simpa using h)
        rw [show p + 1 + i = p + (i + 1) by omega, this]; rfl)
theorem inv_rndC {C : Nat → Bool} {row : List Int} (h : Fit row.length C) : (invP row).Perm ((exN C row).map (fun p => (row.getD (p + 1) 0, row.getD p 0)) ++ invP (rndC C row)) := by
  rw [rndC_go h, exN_exF, ← exP_pairs (fun q e => (h q e).2) row 0 (fun p => row.getD p 0) (fun i hi => by show row.getD (0 + i) 0 = _; rw [Nat.zero_add, getD_at hi])]
  exact inv_go C 0 row
/-- the exchanges of r rounds -/
def nex (s : Nat) (row : List Int) : Nat → Nat
  | 0 => 0
  | r + 1 => nex s row r + (exN (cmpd row.length s (r + 1)) (run s r row)).length
theorem nex_inv (s : Nat) (row : List Int) : ∀ r, nex s row r + (invP (run s r row)).length = (invP row).length
  | 0 => by simp [nex, run]
  | r + 1 => by
    have ih := nex_inv s row r
    have hl := run_len s row r
    have h := (inv_rndC (C := cmpd (run s r row).length s (r + 1)) (row := run s r row) (fit_cmpd _ _ _)).length_eq
    rw [List.length_append, List.length_map] at h
    show nex s row r + (exN (cmpd row.length s (r + 1)) (run s r row)).length + (invP (rndC (cmpd (run s r row).length s (r + 1)) (run s r row))).length = _
    rw [hl] at h ⊢
    omega
theorem inv_sorted : ∀ {l : List Int}, Sorted l → invP l = []
  | [], _ => rfl
  | x :: xs, h => by
    obtain ⟨h1, h2⟩ := List.pairwise_cons.mp h
    rw [inv_cons, inv_sorted h2, List.append_nil]
    show (List.filter _ xs).map _ = []
    rw [List.filter_eq_nil_iff.mpr (fun z hz => by have := h1 z hz; simp; omega)]; rfl
theorem sorted_inv : ∀ {l : List Int}, invP l = [] → Sorted l
  | [], _ => List.Pairwise.nil
  | x :: xs, h => by
    rw [inv_cons] at h
    obtain ⟨h1, h2⟩ := List.append_eq_nil_iff.mp h
    refine List.pairwise_cons.mpr ⟨fun z hz => ?_, sorted_inv h2⟩
    have := List.filter_eq_nil_iff.mp (List.map_eq_nil_iff.mp h1) z hz
    simp at this
    exact this
/-- all rounds together make as many exchanges as there are inversions -/
theorem nex_full {s r : Nat} {row : List Int} (h : need s row ≤ r) : nex s row r = (invP row).length := by
  have h1 := nex_inv s row r
  rw [inv_sorted ((sorted_run s r row).mpr h)] at h1
  simpa using h1
theorem invP_mem_iff {a b : Int} : ∀ (row : List Int), (a, b) ∈ invP row ↔ a < b ∧ ∃ i j, ∃ (hi : i < row.length) (hj : j < row.length), i < j ∧ row[i] = b ∧ row[j] = a
  | [] => by simp [invP]
  | x :: xs => by
    rw [inv_cons, List.mem_append, invP_mem_iff xs]
    constructor
    · rintro (h | ⟨h, i, j, hi, hj, hij, e1, e2⟩)
      · obtain ⟨z, hz, e⟩ := List.mem_map.mp h
        obtain ⟨hz1, hz2⟩ := List.mem_filter.mp hz
        cases e
        obtain ⟨j, hj, e⟩ := List.getElem_of_mem hz1
        exact ⟨by simpa using hz2, 0, j + 1, by simp, by simpa using hj, by omega, rfl, e⟩
      · exact ⟨h, i + 1, j + 1, by simpa using hi, by simpa using hj, by omega, e1, e2⟩
    · rintro ⟨h, i, j, hi, hj, hij, e1, e2⟩
      cases j with
      | zero => omega
      | succ j =>
        cases i with
        | zero =>
          refine .inl (List.mem_map.mpr ⟨a, List.mem_filter.mpr ⟨?_, ?_⟩, ?_⟩)
          · rw [← e2]; exact List.getElem_mem _
          · have : x = b := e1
            simpa [this] using h
          · have : x = b := e1
            rw [this]
        | succ i => exact .inr ⟨h, i, j, by simpa using hi, by simpa using hj, by omega, e1, e2⟩
theorem invP_nodup : ∀ {row : List Int}, row.Nodup → (invP row).Nodup
  | [], _ => List.Pairwise.nil
  | x :: xs, h => by
    obtain ⟨h1, h2⟩ := List.nodup_cons.mp h
    rw [inv_cons, List.nodup_append]
    refine ⟨?_, invP_nodup h2, ?_⟩
    · show ((List.filter _ xs).map _).Nodup
      rw [List.Nodup, List.pairwise_map]
      exact (h2.filter _).imp fun {a b} q e => q (Prod.mk.inj e).1
    · intro p hp q hq e
      obtain ⟨z, _, e1⟩ := List.mem_map.mp hp
      have := (invP_mem xs q hq).2
      rw [← e, ← e1] at this
      exact h1 this
end MX

namespace MX
/-! exchanges of neighbours, one after another, and a round -/
def cmpL (n s k : Nat) : List Nat := (List.range (n - 1)).filter fun p => decide ((p + s + k) % 2 = 1)
def excL (row : List Int) (s k : Nat) : List Nat := (cmpL row.length s k).filter fun p => decide (row.getD (p + 1) 0 < row.getD p 0)
def swapAt (row : List Int) (p : Nat) : List Int := row.take p ++ [row.getD (p + 1) 0, row.getD p 0] ++ row.drop (p + 2)
def swaps (row : List Int) : List Nat → List Int
  | [] => row
  | p :: ps => swaps (swapAt row p) ps
theorem swapAt_len {row : List Int} {p : Nat} (h : p + 1 < row.length) : (swapAt row p).length = row.length := by
  simp [swapAt]; omega
theorem ext_getD {a b : List Int} (hl : a.length = b.length) (h : ∀ i, i < a.length → a.getD i 0 = b.getD i 0) : a = b := by
  apply List.ext_getElem hl
  intro i h1 h2
  have := h i h1
  rwa [List.getD_eq_getElem?_getD, List.getD_eq_getElem?_getD, List.getElem?_eq_getElem h1, List.getElem?_eq_getElem h2] at this
theorem swapAt_getD {row : List Int} {p : Nat} (h : p + 1 < row.length) (i : Nat) : (swapAt row p).getD i 0 = if i = p then row.getD (p + 1) 0 else if i = p + 1 then row.getD p 0 else row.getD i 0 := by
  simp only [swapAt, List.getD_eq_getElem?_getD, List.append_assoc]
  rcases Nat.lt_or_ge i p with h1 | h1
  · rw [List.getElem?_append_left (by simp; omega), List.getElem?_take_of_lt h1, if_neg (by omega), if_neg (by omega)]
  · rw [List.getElem?_append_right (by simp; omega)]
    have hl : (List.take p row).length = p := by simp; omega
    rw [hl]
    by_cases e1 : i = p
    · subst e1; simp
    · by_cases e2 : i = p + 1
      · subst e2; simp
      · rw [if_neg e1, if_neg e2, List.getElem?_append_right (by simp; omega), List.getElem?_drop]
        congr 2
        simp; omega
theorem swaps_len : ∀ {ps : List Nat} {row : List Int}, (∀ p ∈ ps, p + 1 < row.length) → (swaps row ps).length = row.length
  | [], row, _ => rfl
  | p :: ps, row, h => by
    have hp := h p List.mem_cons_self
    have e := swapAt_len hp
    show (swaps (swapAt row p) ps).length = _
    rw [swaps_len fun q hq => by rw [e]; exact h q (List.mem_cons_of_mem _ hq), e]
theorem swaps_getD : ∀ {ps : List Nat} {row : List Int}, ps.Pairwise (fun a b => a + 1 < b) → (∀ p ∈ ps, p + 1 < row.length) → ∀ i, (swaps row ps).getD i 0 = if i ∈ ps then row.getD (i + 1) 0 else if 0 < i ∧ i - 1 ∈ ps then row.getD (i - 1) 0 else row.getD i 0
  | [], row, _, _, i => by simp [swaps]
  | p :: ps, row, hw, h, i => by
    have hp := h p List.mem_cons_self
    have e := swapAt_len hp
    rw [List.pairwise_cons] at hw
    have ih := swaps_getD (row := swapAt row p) hw.2 (fun q hq => by rw [e]; exact h q (List.mem_cons_of_mem _ hq)) i
    show (swaps (swapAt row p) ps).getD i 0 = _
    rw [ih, swapAt_getD hp, swapAt_getD hp, swapAt_getD hp]
    simp only [List.mem_cons]
    by_cases m1 : i ∈ ps
    · have := hw.1 i m1
      rw [if_pos m1, if_neg (by omega), if_neg (by omega), if_pos (.inr m1)]
    · rw [if_neg m1]
      by_cases m2 : 0 < i ∧ i - 1 ∈ ps
      · have := hw.1 _ m2.2
        rw [if_pos m2, if_neg (by omega), if_neg (by omega), if_neg (by rintro (z | z); omega; exact m1 z), if_pos ⟨m2.1, .inr m2.2⟩]
      · rw [if_neg m2]
        by_cases e1 : i = p
        · subst e1; simp
        · rw [if_neg e1]
          by_cases e2 : i = p + 1
          · subst e2
            rw [if_pos rfl, if_neg (by rintro (z | z); omega; exact m1 z), if_pos ⟨by omega, .inl (by omega)⟩]
            rfl
          · rw [if_neg e2, if_neg (by rintro (z | z); exact e1 z; exact m1 z), if_neg]
            rintro ⟨z1, z2 | z2⟩
            · omega
            · exact m2 ⟨z1, z2⟩
theorem cmpL_mem {n s k p : Nat} : p ∈ cmpL n s k ↔ p + 1 < n ∧ (p + s + k) % 2 = 1 := by
  unfold cmpL
  rw [List.mem_filter, List.mem_range, decide_eq_true_eq]
  omega
theorem cmpL_gap (n s k : Nat) : (cmpL n s k).Pairwise (fun a b => a + 1 < b) := by
  have h1 : (cmpL n s k).Pairwise (· < ·) := List.Pairwise.filter _ List.pairwise_lt_range
  refine List.Pairwise.imp_of_mem ?_ h1
  intro a b ha hb hab
  have := (cmpL_mem.mp ha).2
  have := (cmpL_mem.mp hb).2
  omega
theorem excL_gap (row : List Int) (s k : Nat) : (excL row s k).Pairwise (fun a b => a + 1 < b) := (cmpL_gap _ _ _).filter _
theorem excL_mem {row : List Int} {s k p : Nat} : p ∈ excL row s k ↔ cmpd row.length s k p = true ∧ row.getD (p + 1) 0 < row.getD p 0 := by
  unfold excL cmpd
  rw [List.mem_filter, cmpL_mem, decide_eq_true_eq, decide_eq_true_eq]
theorem swaps_exc (row : List Int) (s k : Nat) : swaps row (excL row s k) = rnd s k row := by
  have hb : ∀ p ∈ excL row s k, p + 1 < row.length := fun p hp => by
    have := (excL_mem.mp hp).1
    unfold cmpd at this
    simp at this; omega
  refine ext_getD (by rw [swaps_len hb, rnd_len]) fun i hi => ?_
  rw [swaps_len hb] at hi
  rw [swaps_getD (excL_gap _ _ _) hb]
  have e : (rnd s k row).getD i 0 = stp (cmpd row.length s k) (fun p => row.getD p 0) i := by
    unfold rnd rndC
    rw [List.getD_eq_getElem?_getD, List.getElem?_map, List.getElem?_range hi]; rfl
  rw [e]
  unfold stp; dsimp only
  by_cases c : cmpd row.length s k i = true
  · rw [if_pos c]
    have c' : ¬ (0 < i ∧ i - 1 ∈ excL row s k) := fun ⟨z1, z2⟩ => by
      have := (excL_mem.mp z2).1
      unfold cmpd at this c
      simp at this c; omega
    by_cases d : row.getD (i + 1) 0 < row.getD i 0
    · rw [if_pos (excL_mem.mpr ⟨c, d⟩)]; omega
    · rw [if_neg (fun z => d (excL_mem.mp z).2), if_neg c']; omega
  · rw [if_neg c, if_neg (fun z => c (excL_mem.mp z).1)]
    by_cases c2 : 0 < i ∧ cmpd row.length s k (i - 1) = true
    · rw [if_pos c2]
      have e2 : i - 1 + 1 = i := by omega
      by_cases d : row.getD i 0 < row.getD (i - 1) 0
      · rw [if_pos ⟨c2.1, excL_mem.mpr ⟨c2.2, by rw [e2]; exact d⟩⟩]; omega
      · rw [if_neg (fun z => d (by have := (excL_mem.mp z.2).2; rwa [e2] at this))]; omega
    · rw [if_neg c2, if_neg (fun z => c2 ⟨z.1, (excL_mem.mp z.2).1⟩)]
theorem excL_exN (row : List Int) (s k : Nat) : excL row s k = exN (cmpd row.length s k) row := by
  unfold excL exN cmpL
  rw [List.filter_filter]
  apply List.filter_congr
  intro p hp
  have := List.mem_range.mp hp
  unfold cmpd
  have e : decide (p + 1 < row.length ∧ (p + s + k) % 2 = 1) = decide ((p + s + k) % 2 = 1) := by
    rw [Bool.eq_iff_iff]; simp; omega
  rw [e, Bool.and_comm]
end MX

namespace LW
open PySem PySem.Spec L2 KX DX MX
open PyProof.Rows hiding St
def toI (ns : List Nat) : List Int := ns.map fun (p : Nat) => (p : Int)
def Scompared_places : DF := fun as k => ∃ n s m : Nat, as = [.pub (.int n), .pub (.int s), .pub (.int m)] ∧ n ≤ 30 ∧ s ≤ 1 ∧ m ≤ 200 ∧ k (.pub (tupI (toI (cmpL n s m))))
def Sexchanged_places : DF := fun as k => ∃ (row : List Int) (s m : Nat), as = [.pub (tupI row), .pub (.int s), .pub (.int m)] ∧ row.length ≤ 30 ∧ s ≤ 1 ∧ m ≤ 200 ∧ k (.pub (tupI (toI (excL row s m))))
def Safter_exchange : DF := fun as k => ∃ (row : List Int) (p : Nat), as = [.pub (tupI row), .pub (.int p)] ∧ row.length ≤ 30 ∧ p + 1 < row.length ∧ k (.pub (tupI (swapAt row p)))
def Safter_round : DF := fun as k => ∃ (row : List Int) (s m : Nat), as = [.pub (tupI row), .pub (.int s), .pub (.int m)] ∧ row.length ≤ 30 ∧ s ≤ 1 ∧ m ≤ 200 ∧ k (.pub (tupI (rnd s m row)))
def S_law_pairs : DF := fun as k => ∃ n s m : Nat, as = [.pub (.int n), .pub (.int s), .pub (.int m)] ∧ n ≤ 30 ∧ s ≤ 1 ∧ m ≤ 200 ∧ k (.own ((toI (cmpL n s m)).map .int))
def S_law_after : DF := Safter_round
end LW

namespace LW
open PySem PySem.Spec L2 KX DX MX
open PyProof.Rows hiding St
abbrev wcompared_places : DS := (sRet (x1 fTuple (xPs [2, 1] (xLc [3] (iR1 (aC (x2 oSub (xV 0) (xC (.int 1))) aN)) (gN 3) (tV (x2 oEq (x2 oMod (x2 oAdd (x2 oAdd (xV 3) (xV 1)) (xV 2)) (xC (.int 2))) (xC (.int 1)))) (xV 3)))))
abbrev wexchanged_places : DS := (sSeq (sAsg (xCall Scompared_places (aC (xP (x1 fLen (xV 0))) (aC (xP (xV 1)) (aC (xP (xV 2)) aN)))) (gN 3))
  (sRet (x1 fTuple (xPs [0] (xLc [4] (iX (xV 3)) (gN 4) (tV (x2 oGt (x2 oIx (xV 0) (xV 4)) (x2 oIx (xV 0) (x2 oAdd (xV 4) (xC (.int 1)))))) (xV 4))))))
abbrev wafter_exchange : DS := (sRet (x2 oAdd (x2 oAdd (xSl (xV 0) pN (pS (xV 1))) (xTup (aC (xP (x2 oIx (xV 0) (x2 oAdd (xV 1) (xC (.int 1))))) (aC (xP (x2 oIx (xV 0) (xV 1))) aN)))) (xSl (xV 0) (pS (x2 oAdd (xV 1) (xC (.int 2)))) pN)))
abbrev wafter_round : DS := (sSeq (sAsg (xV 0) (gN 3))
  (sSeq (sFor (iX (xCall Sexchanged_places (aC (xP (xV 0)) (aC (xP (xV 1)) (aC (xP (xV 2)) aN))))) (gN 4)
  (sAsg (xCall Safter_exchange (aC (xP (xV 3)) (aC (xP (xV 4)) aN))) (gN 3)))
  (sRet (xV 3))))
abbrev w_law_pairs : DS := (sRet (xPs [2, 1] (xLc [3] (iR1 (aC (x2 oSub (xV 0) (xC (.int 1))) aN)) (gN 3) (tV (x2 oEq (x2 oMod (x2 oAdd (x2 oAdd (xV 3) (xV 1)) (xV 2)) (xC (.int 2))) (xC (.int 1)))) (xV 3))))
abbrev w_law_after : DS := (sSeq (sAsg (xLst aN) (gN 3))
  (sSeq (sAsg (xCall S_law_pairs (aC (xP (x1 fLen (xV 0))) (aC (xP (xV 1)) (aC (xP (xV 2)) aN)))) (gN 4))
  (sSeq (sFor (iR1 (aC (x1 fLen (xV 0)) aN)) (gN 5)
  (sIf (tV (x2 oIn (xV 5) (xV 4)))
  (sExp (lAppend 3 (x2 fMin2 (x2 oIx (xV 0) (xV 5)) (x2 oIx (xV 0) (x2 oAdd (xV 5) (xC (.int 1)))))))
  (sIf (tV (x2 oIn (x2 oSub (xV 5) (xC (.int 1))) (xV 4)))
  (sExp (lAppend 3 (x2 fMax2 (x2 oIx (xV 0) (x2 oSub (xV 5) (xC (.int 1)))) (x2 oIx (xV 0) (xV 5)))))
  (sExp (lAppend 3 (x2 oIx (xV 0) (xV 5)))))))
  (sRet (x1 fTuple (xV 3))))))
theorem cmp_lc {n s m : Nat} {Q : List PyData → Prop} {a : Sl} (q : Q ((toI (cmpL n s m)).map .int)) :
    lcGo (gN 3) (tV (x2 oEq (x2 oMod (x2 oAdd (x2 oAdd (xV 3) (xV 1)) (xV 2)) (xC (.int 2))) (xC (.int 1)))) (xV 3) [a, .pub (.int s), .pub (.int m), .emp] (rngD 0 (n - 1)) [] Q := by
  rw [rng_eq]
  refine lcGo_map (fun i : Nat => .int (0 + (i : Int))) (fun i => [a, .pub (.int s), .pub (.int m), .pub (.int (0 + (i : Int)))]) (fun i => decide ((i + s + m) % 2 = 1)) (fun i => .int (0 + (i : Int))) _ _ ?_ ?_ ?_ ?_
  · intro x _ k h; simpa using h
  · intro x _ k h
    have e : (((x : Int) + s + m) % 2 == 1) = decide ((x + s + m) % 2 = 1) := by
      rw [Bool.eq_iff_iff]; simp; omega
    simp [e] at h ⊢
    exact h
  · intro x _ _ k h; simpa using h
  · simpa [toI, cmpL, Function.comp_def] using q
theorem len_compared_places : ∀ as k, Scompared_places as k → as.length = 3 := by rintro _ k ⟨n, s, m, rfl, _⟩; rfl
theorem dd_compared_places : ∀ as k, Scompared_places as k → wcompared_places { nx := fun _ => k (.pub .none), rt := k } (as ++ List.replicate (4 - as.length) .emp) := by
  rintro _ k ⟨n, s, m, rfl, hn, hs, hm, q⟩
  have e : ((n : Int) - 1).toNat = n - 1 := by omega
  simp [e, rng_len]
  refine ⟨i62_of (by omega) (by omega), by omega, cmp_lc ?_⟩
  exact q
theorem len__law_pairs : ∀ as k, S_law_pairs as k → as.length = 3 := by rintro _ k ⟨n, s, m, rfl, _⟩; rfl
theorem dd__law_pairs : ∀ as k, S_law_pairs as k → w_law_pairs { nx := fun _ => k (.pub .none), rt := k } (as ++ List.replicate (4 - as.length) .emp) := by
  rintro _ k ⟨n, s, m, rfl, hn, hs, hm, q⟩
  have e : ((n : Int) - 1).toNat = n - 1 := by omega
  simp [e, rng_len]
  refine ⟨i62_of (by omega) (by omega), by omega, cmp_lc ?_⟩
  simpa using q
theorem cmpL_lt {n s k p : Nat} (h : p ∈ cmpL n s k) : p + 1 < n := by
  unfold cmpL at h
  have := List.mem_range.mp (List.mem_filter.mp h).1
  omega
theorem cmpL_len (n s k : Nat) : (cmpL n s k).length ≤ n := by
  unfold cmpL
  have := List.length_filter_le (fun p => decide ((p + s + k) % 2 = 1)) (List.range (n - 1))
  rw [List.length_range] at this
  omega
theorem atI_row {row : List Int} {p : Nat} (h : p < row.length) : atI row (p : Int) = some (row.getD p 0) := by
  rw [atI_of h, List.getD_eq_getElem?_getD, List.getElem?_eq_getElem h]; rfl
theorem atI_row1 {row : List Int} {p : Nat} (h : p + 1 < row.length) : atI row ((p : Int) + 1) = some (row.getD (p + 1) 0) := by
  have := atI_row h
  rwa [show (((p + 1 : Nat)) : Int) = (p : Int) + 1 by omega] at this
theorem len_exchanged_places : ∀ as k, Sexchanged_places as k → as.length = 3 := by rintro _ k ⟨n, s, m, rfl, _⟩; rfl
/-- exchanged places among compared ones -/
theorem exc_lc {row : List Int} {Q : List PyData → Prop} {ps : List Nat} (i j : Nat) (δ : DEnv) (hi : δ[i]? = some (.pub (tupI row))) (hij : i ≠ j) (hj : j < δ.length) (hp : ∀ p ∈ ps, p + 1 < row.length) (q : Q ((toI (ps.filter fun p => decide (row.getD (p + 1) 0 < row.getD p 0))).map .int)) :
    lcGo (gN j) (tV (x2 oGt (x2 oIx (xV i) (xV j)) (x2 oIx (xV i) (x2 oAdd (xV j) (xC (.int 1)))))) (xV j) δ ((toI ps).map .int) [] Q := by
  have e : (toI ps).map PyData.int = ps.map fun p : Nat => .int (p : Int) := by simp [toI]
  rw [e]
  have g1 : ∀ x : Nat, (δ.set j (.pub (.int (x : Int))))[i]? = some (.pub (tupI row)) := fun x => by rw [List.getElem?_set_ne hij.symm]; exact hi
  have g2 : ∀ x : Nat, (δ.set j (.pub (.int (x : Int))))[j]? = some (.pub (.int (x : Int))) := fun x => List.getElem?_set_self hj
  refine lcGo_map (fun p : Nat => .int (p : Int)) (fun p => δ.set j (.pub (.int (p : Int)))) (fun p => decide (row.getD (p + 1) 0 < row.getD p 0)) (fun p => .int (p : Int)) _ _ ?_ ?_ ?_ ?_
  · intro x _ k h; simpa using h
  · intro x hx k h
    have := hp x hx
    simp only [tV_s, x2_s, xV, xC, g1, g2, rd, oIx_t, oAdd, oGt, tupI, atI_ints, atI_row (show x < row.length by omega), atI_row1 this, withD_some, withB_some, Option.map_some]
    exact h
  · intro x _ _ k h
    simp only [xV, g2]; exact h
  · simpa [toI, Function.comp_def] using q
theorem dd_exchanged_places : ∀ as k, Sexchanged_places as k → wexchanged_places { nx := fun _ => k (.pub .none), rt := k } (as ++ List.replicate (5 - as.length) .emp) := by
  rintro _ k ⟨row, s, m, rfl, hn, hs, hm, q⟩
  simp [tupI]
  refine ⟨row.length, s, m, rfl, hn, hs, hm, ?_⟩
  simp [tupI]
  refine ⟨?_, ?_⟩
  · have := cmpL_len row.length s m; simp [toI]; omega
  · refine exc_lc (row := row) 0 4 _ rfl (by decide) (by simp) (fun p hp => cmpL_lt hp) ?_
    exact q
theorem len_after_exchange : ∀ as k, Safter_exchange as k → as.length = 2 := by rintro _ k ⟨n, s, rfl, _⟩; rfl
theorem cut2 (ns : List Int) (j : Nat) : cutD (ns.map PyData.int) (some ((j : Int) + 2)) none = (ns.drop (j + 2)).map PyData.int := by
  have := cutD_from ns (j + 2)
  rwa [show (((j + 2 : Nat)) : Int) = (j : Int) + 2 by omega] at this
theorem dd_after_exchange : ∀ as k, Safter_exchange as k → wafter_exchange { nx := fun _ => k (.pub .none), rt := k } (as ++ List.replicate (2 - as.length) .emp) := by
  rintro _ k ⟨row, p, rfl, hn, hp, q⟩
  simp [tupI, atI_row (show p < row.length by omega), atI_row1 hp, cut2, cutD_to]
  refine ⟨by omega, by omega, ?_⟩
  simpa [swapAt, tupI] using q
theorem len_after_round : ∀ as k, Safter_round as k → as.length = 3 := by rintro _ k ⟨n, s, m, rfl, _⟩; rfl
theorem dd_after_round : ∀ as k, Safter_round as k → wafter_round { nx := fun _ => k (.pub .none), rt := k } (as ++ List.replicate (5 - as.length) .emp) := by
  rintro _ k ⟨row, s, m, rfl, hn, hs, hm, q⟩
  simp [tupI]
  refine ⟨row, s, m, rfl, hn, hs, hm, ?_⟩
  simp [tupI]
  have e : (toI (excL row s m)).map PyData.int = (excL row s m).map fun p : Nat => .int (p : Int) := by simp [toI]
  rw [e]
  refine forGo_inv (fun p : Nat => .int (p : Int)) (fun ps δ => ∃ (r : List Int) (x : Sl), δ = [.pub (tupI row), .pub (.int s), .pub (.int m), .pub (tupI r), x] ∧ r.length = row.length ∧ (∀ p ∈ ps, p + 1 < row.length) ∧ swaps r ps = rnd s m row) ?_ ?_ _ _ ?_
  · rintro p ps δ N hN ⟨r, x, rfl, hr, hp, he⟩
    have h1 := hp p List.mem_cons_self
    simp
    refine ⟨r, p, rfl, by omega, by omega, ?_⟩
    simp
    exact hN _ ⟨swapAt r p, _, rfl, by rw [swapAt_len (by omega)]; exact hr, fun q hq => hp q (List.mem_cons_of_mem _ hq), he⟩
  · rintro δ ⟨r, x, rfl, hr, hp, he⟩
    have he : r = rnd s m row := he
    subst he
    simpa using q
  · exact ⟨row, .emp, rfl, rfl, fun p hp => by have := (excL_mem.mp hp).1; unfold cmpd at this; simp at this; omega, swaps_exc row s m⟩
theorem len__law_after : ∀ as k, S_law_after as k → as.length = 3 := len_after_round
theorem take_succ {l : List Int} {i : Nat} (h : i < l.length) : l.take (i + 1) = l.take i ++ [l.getD i 0] := by
  rw [List.take_succ_eq_append_getElem h, List.getD_eq_getElem?_getD, List.getElem?_eq_getElem h]; rfl
theorem rnd_getD {row : List Int} {s k i : Nat} (hi : i < row.length) : (rnd s k row).getD i 0 = stp (cmpd row.length s k) (fun p => row.getD p 0) i := by
  unfold rnd rndC
  rw [List.getD_eq_getElem?_getD, List.getElem?_map, List.getElem?_range hi]; rfl
theorem cmp_in {n s m i : Nat} : inD (.int (i : Int)) ((toI (cmpL n s m)).map .int) = cmpd n s m i := by
  rw [inD_ints, Bool.eq_iff_iff, decide_eq_true_eq]
  unfold toI cmpd
  rw [decide_eq_true_eq, ← cmpL_mem, List.mem_map]
  constructor
  · rintro ⟨a, h, e⟩; have : a = i := by omega
    subst this; exact h
  · intro h; exact ⟨i, h, rfl⟩
theorem cmp_in1 {n s m i : Nat} : inD (.int ((i : Int) - 1)) ((toI (cmpL n s m)).map .int) = decide (0 < i ∧ cmpd n s m (i - 1) = true) := by
  rw [inD_ints, Bool.eq_iff_iff, decide_eq_true_eq, decide_eq_true_eq]
  unfold toI cmpd
  rw [decide_eq_true_eq, ← cmpL_mem, List.mem_map]
  constructor
  · rintro ⟨a, h, e⟩; have : a = i - 1 := by omega
    subst this; exact ⟨by omega, h⟩
  · rintro ⟨h1, h⟩; exact ⟨i - 1, h, by omega⟩
theorem dd__law_after : ∀ as k, S_law_after as k → w_law_after { nx := fun _ => k (.pub .none), rt := k } (as ++ List.replicate (6 - as.length) .emp) := by
  rintro _ k ⟨row, s, m, rfl, hn, hs, hm, q⟩
  simp [tupI]
  refine ⟨row.length, s, m, rfl, hn, hs, hm, ?_⟩
  simp
  refine ⟨i62_of (by omega) (by omega), ?_⟩
  rw [rng_eq]
  refine forGo_inv (fun i : Nat => .int (0 + (i : Int))) (fun ps δ => ∃ (i : Nat) (x : Sl), δ = [.pub (tupI row), .pub (.int s), .pub (.int m), .own (((rnd s m row).take i).map .int), .own ((toI (cmpL row.length s m)).map .int), x] ∧ i ≤ row.length ∧ ps = (List.range row.length).drop i) ?_ ?_ _ _ ?_
  · rintro p ps δ N hN ⟨i, x, rfl, hi, hp⟩
    have hlt : i < row.length := by
      rcases Nat.lt_or_ge i row.length with z | z
      · exact z
      · rw [List.drop_eq_nil_of_le (by simpa using z)] at hp; cases hp
    rw [List.drop_eq_getElem_cons (by simpa using hlt)] at hp
    simp only [List.getElem_range, List.cons.injEq] at hp
    obtain ⟨rfl, rfl⟩ := hp
    have e1 := rnd_getD (s := s) (k := m) hlt
    have hl : ((rnd s m row).take p).length ≤ 30 := by simp [rnd_len]; omega
    have fin : ∀ z, (rnd s m row).getD p 0 = z → N [.pub (tupI row), .pub (.int s), .pub (.int m), .own (((rnd s m row).take p).map .int ++ [.int z]), .own ((toI (cmpL row.length s m)).map .int), .pub (.int (p : Int))] := fun z hz => by
      refine hN _ ⟨p + 1, .pub (.int (p : Int)), ?_, hlt, rfl⟩
      rw [take_succ (by rw [rnd_len]; exact hlt), hz]; simp
    unfold stp at e1
    simp [cmp_in, cmp_in1]
    by_cases c : cmpd row.length s m p = true
    · have hp1 : p + 1 < row.length := by unfold cmpd at c; simp at c; omega
      rw [if_pos c] at e1
      simp [c, tupI, atI_row hlt, atI_row1 hp1]
      refine ⟨by omega, ?_⟩
      simpa using fin _ e1
    · rw [if_neg c] at e1
      by_cases c2 : 0 < p ∧ cmpd row.length s m (p - 1) = true
      · rw [if_pos c2] at e1
        have em : atI row ((p : Int) - 1) = some (row.getD (p - 1) 0) := by
          have := atI_row (row := row) (p := p - 1) (by omega)
          rwa [show (((p - 1 : Nat)) : Int) = (p : Int) - 1 by omega] at this
        simp [c, c2, cmp_in1, tupI, atI_row hlt, em]
        refine ⟨by omega, ?_⟩
        simpa using fin _ e1
      · rw [if_neg c2] at e1
        simp [c, c2, cmp_in1, tupI, atI_row hlt]
        refine ⟨by omega, ?_⟩
        simpa using fin _ e1
  · rintro δ ⟨i, x, rfl, hi, hp⟩
    have : row.length ≤ i := by
      rcases Nat.lt_or_ge i row.length with z | z
      · rw [List.drop_eq_getElem_cons (by simpa using z)] at hp; cases hp
      · exact z
    have e : (rnd s m row).take i = rnd s m row := List.take_of_length_le (by rw [rnd_len]; omega)
    rw [e]
    simpa using q
  · exact ⟨0, .emp, by simp [tupI], Nat.zero_le _, by simp⟩
end LW

namespace DX
open PySem PySem.Spec L2 KX
open PyProof.Rows hiding St
theorem u200 {k : Nat} {A : Around} (r : Room k A) : A.units + 200 < cLine := by have := r.un; omega
/-! lists of ints, of truth values, as data -/
@[simp] def intsOf : List PyData → Option (List Int)
  | [] => some []
  | .int i :: ds => (intsOf ds).map (i :: ·)
  | _ => none
@[simp] theorem intsOf_map : ∀ ns : List Int, intsOf (ns.map PyData.int) = some ns
  | [] => rfl
  | n :: ns => by simp [intsOf, intsOf_map ns]
theorem intsOf_eq : ∀ {ds : List PyData} {ns : List Int}, intsOf ds = some ns → ds = ns.map PyData.int
  | [], _, h => by cases h; rfl
  | .int i :: ds, _, h => by
    simp only [intsOf, Option.map_eq_some_iff] at h
    obtain ⟨ms, h1, rfl⟩ := h
    rw [intsOf_eq h1]; rfl
  | .none :: _, _, h => by cases h
  | .bool _ :: _, _, h => by cases h
  | .str _ :: _, _, h => by cases h
  | .list _ :: _, _, h => by cases h
  | .tuple _ :: _, _, h => by cases h
  | .dict _ :: _, _, h => by cases h
@[simp] def boolsOf : List PyData → Option (List Bool)
  | [] => some []
  | .bool i :: ds => (boolsOf ds).map (i :: ·)
  | _ => none
@[simp] theorem boolsOf_map : ∀ ns : List Bool, boolsOf (ns.map PyData.bool) = some ns
  | [] => rfl
  | n :: ns => by simp [boolsOf, boolsOf_map ns]
theorem boolsOf_eq : ∀ {ds : List PyData} {ns : List Bool}, boolsOf ds = some ns → ds = ns.map PyData.bool
  | [], _, h => by cases h; rfl
  | .bool i :: ds, _, h => by
    simp only [boolsOf, Option.map_eq_some_iff] at h
    obtain ⟨ms, h1, rfl⟩ := h
    rw [boolsOf_eq h1]; rfl
  | .none :: _, _, h => by cases h
  | .int _ :: _, _, h => by cases h
  | .str _ :: _, _, h => by cases h
  | .list _ :: _, _, h => by cases h
  | .tuple _ :: _, _, h => by cases h
  | .dict _ :: _, _, h => by cases h
def mxI : List Int → Int
  | [] => 0
  | n :: ns => ns.foldl max n
def mnI : List Int → Int
  | [] => 0
  | n :: ns => ns.foldl min n
def mxD (d : Int) : List Int → Int
  | [] => d
  | n :: ns => ns.foldl max n
theorem foldl_max_ge : ∀ (ns : List Int) (n : Int), n ≤ ns.foldl max n ∧ ∀ m ∈ ns, m ≤ ns.foldl max n
  | [], n => ⟨Int.le_refl _, fun _ h => nomatch h⟩
  | k :: ns, n => by
    obtain ⟨h1, h2⟩ := foldl_max_ge ns (max n k)
    refine ⟨by simp only [List.foldl_cons]; omega, fun m hm => ?_⟩
    simp only [List.foldl_cons]
    rcases List.mem_cons.mp hm with rfl | hm
    · omega
    · exact h2 m hm
theorem foldl_max_mem : ∀ (ns : List Int) (n : Int), ns.foldl max n ∈ n :: ns
  | [], n => by simp
  | k :: ns, n => by
    simp only [List.foldl_cons]
    rcases List.mem_cons.mp (foldl_max_mem ns (max n k)) with h | h
    · rcases Int.le_total n k with q | q
      · rw [h, Int.max_eq_right q]; simp
      · rw [h, Int.max_eq_left q]; simp
    · exact List.mem_cons_of_mem _ (List.mem_cons_of_mem _ h)
theorem foldl_min_le : ∀ (ns : List Int) (n : Int), ns.foldl min n ≤ n ∧ ∀ m ∈ ns, ns.foldl min n ≤ m
  | [], n => ⟨Int.le_refl _, fun _ h => nomatch h⟩
  | k :: ns, n => by
    obtain ⟨h1, h2⟩ := foldl_min_le ns (min n k)
    refine ⟨by simp only [List.foldl_cons]; omega, fun m hm => ?_⟩
    simp only [List.foldl_cons]
    rcases List.mem_cons.mp hm with rfl | hm
    · omega
    · exact h2 m hm
theorem foldl_min_mem : ∀ (ns : List Int) (n : Int), ns.foldl min n ∈ n :: ns
  | [], n => by simp
  | k :: ns, n => by
    simp only [List.foldl_cons]
    rcases List.mem_cons.mp (foldl_min_mem ns (min n k)) with h | h
    · rcases Int.le_total n k with q | q
      · rw [h, Int.min_eq_left q]; simp
      · rw [h, Int.min_eq_right q]; simp
    · exact List.mem_cons_of_mem _ (List.mem_cons_of_mem _ h)
theorem mxI_mem {ns : List Int} (h : ns ≠ []) : mxI ns ∈ ns := by
  cases ns with
  | nil => exact absurd rfl h
  | cons n ns => exact foldl_max_mem ns n
theorem mxI_ge {ns : List Int} : ∀ m ∈ ns, m ≤ mxI ns := by
  cases ns with
  | nil => intro m h; cases h
  | cons n ns =>
    intro m h
    rcases List.mem_cons.mp h with rfl | h
    · exact (foldl_max_ge ns m).1
    · exact (foldl_max_ge ns n).2 m h
theorem mnI_mem {ns : List Int} (h : ns ≠ []) : mnI ns ∈ ns := by
  cases ns with
  | nil => exact absurd rfl h
  | cons n ns => exact foldl_min_mem ns n
theorem mnI_le {ns : List Int} : ∀ m ∈ ns, mnI ns ≤ m := by
  cases ns with
  | nil => intro m h; cases h
  | cons n ns =>
    intro m h
    rcases List.mem_cons.mp h with rfl | h
    · exact (foldl_min_le ns m).1
    · exact (foldl_min_le ns n).2 m h
theorem mxD_nil (d : Int) : mxD d [] = d := rfl
theorem mxD_mem {d : Int} {ns : List Int} (h : ns ≠ []) : mxD d ns ∈ ns := by
  cases ns with
  | nil => exact absurd rfl h
  | cons n ns => exact foldl_max_mem ns n
theorem mxD_ge {d : Int} {ns : List Int} : ∀ m ∈ ns, m ≤ mxD d ns := by
  cases ns with
  | nil => intro m h; cases h
  | cons n ns => exact mxI_ge
theorem mxI_uniq {ns : List Int} {m : Int} (h1 : m ∈ ns) (h2 : ∀ y ∈ ns, y ≤ m) : m = mxI ns :=
  Int.le_antisymm (mxI_ge m h1) (h2 _ (mxI_mem (List.ne_nil_of_mem h1)))
theorem mnI_uniq {ns : List Int} {m : Int} (h1 : m ∈ ns) (h2 : ∀ y ∈ ns, m ≤ y) : m = mnI ns :=
  Int.le_antisymm (h2 _ (mnI_mem (List.ne_nil_of_mem h1))) (mnI_le m h1)
/-! sorted ints -/
def srtI (ns : List Int) : List Int := ns.mergeSort fun a b => decide (a ≤ b)
theorem srtI_perm (ns : List Int) : (srtI ns).Perm ns := List.mergeSort_perm ns _
theorem srtI_len (ns : List Int) : (srtI ns).length = ns.length := (srtI_perm ns).length_eq
theorem srtI_ord (ns : List Int) : (srtI ns).Pairwise (· ≤ ·) := by
  have := List.pairwise_mergeSort (le := fun a b : Int => decide (a ≤ b)) (fun a b c h1 h2 => by simp only [decide_eq_true_eq] at *; omega) (fun a b => by simp only [Bool.or_eq_true, decide_eq_true_eq]; omega) ns
  exact this.imp fun h => by simpa using h
theorem ord_uniq : ∀ {ms ns : List Int}, ms.Perm ns → ms.Pairwise (· ≤ ·) → ns.Pairwise (· ≤ ·) → ms = ns
  | [], ns, h, _, _ => (List.Perm.eq_nil h.symm).symm
  | m :: ms, [], h, _, _ => absurd h.length_eq (by simp)
  | m :: ms, n :: ns, h, h1, h2 => by
    have e : m = n := by
      have a1 : n ∈ m :: ms := h.mem_iff.mpr List.mem_cons_self
      have a2 : m ∈ n :: ns := h.mem_iff.mp List.mem_cons_self
      have b1 : m ≤ n := by
        rcases List.mem_cons.mp a1 with q | q
        · omega
        · exact (List.pairwise_cons.mp h1).1 n q
      have b2 : n ≤ m := by
        rcases List.mem_cons.mp a2 with q | q
        · omega
        · exact (List.pairwise_cons.mp h2).1 m q
      omega
    subst e
    rw [ord_uniq h.cons_inv (List.pairwise_cons.mp h1).2 (List.pairwise_cons.mp h2).2]
theorem srtI_uniq {ms ns : List Int} (h : ms.Perm ns) (h1 : ms.Pairwise (· ≤ ·)) : ms = srtI ns := ord_uniq (h.trans (srtI_perm ns).symm) h1 (srtI_ord ns)
theorem srtI_rev {ms ns : List Int} (h : ms.Perm ns) (h1 : ms.Pairwise (· ≥ ·)) : ms = (srtI ns).reverse := by
  have : ms.reverse = srtI ns := srtI_uniq ((List.reverse_perm ms).trans h) (List.pairwise_reverse.mpr (h1.imp fun h => h))
  rw [← this, List.reverse_reverse]
/-! sorted data -/
def srtD (ds : List PyData) : List PyData := ds.mergeSort (PySem.W.dataLe false id)
structure SrtOk (ds : List PyData) : Prop where
  al : PySem.W.AllAlike ds
  so : PySem.W.Sortable ds
  len : ds.length ≤ 10000
  dep : ∀ d ∈ ds, d.depth ≤ 60
  nd : PyData.hasDictAll ds = false
theorem srtD_ints (ns : List Int) : srtD (ns.map PyData.int) = (srtI ns).map PyData.int := by
  unfold srtD srtI
  rw [List.map_mergeSort]
  intro a _ b _
  have := congrFun (congrFun (PySem.W.dataLe_int (fun b : Int => b)) a) b
  exact this.symm
def fSorted : O1
  | .list ds, k => (match intsOf ds with
    | some ns => k (.own ((srtI ns).map PyData.int))
    | none => SrtOk ds ∧ k (.own (srtD ds)))
  | .tuple ds, k => withD (intsOf ds) fun ns => k (.own ((srtI ns).map PyData.int))
  | _, _ => False
@[simp ↓] theorem fSorted_t (ds : List PyData) (k : Sl → Prop) : fSorted (.tuple ds) k = withD (intsOf ds) fun ns => k (.own ((srtI ns).map PyData.int)) := rfl
@[simp ↓] theorem fSorted_ints (ns : List Int) (k : Sl → Prop) : fSorted (.list (ns.map PyData.int)) k = k (.own ((srtI ns).map PyData.int)) := by
  simp only [fSorted, intsOf_map]
theorem fSorted_of {ds : List PyData} {k : Sl → Prop} (h : SrtOk ds) (hk : k (.own (srtD ds))) : fSorted (.list ds) k := by
  simp only [fSorted]
  cases e : intsOf ds with
  | none => exact ⟨h, hk⟩
  | some ns =>
    rw [intsOf_eq e, srtD_ints] at hk
    exact hk
def fSortedR : O1
  | .list ds, k => withD (intsOf ds) fun ns => k (.own ((srtI ns).reverse.map PyData.int))
  | .tuple ds, k => withD (intsOf ds) fun ns => k (.own ((srtI ns).reverse.map PyData.int))
  | _, _ => False
@[simp ↓] theorem fSortedR_t (ds : List PyData) (k : Sl → Prop) : fSortedR (.tuple ds) k = withD (intsOf ds) fun ns => k (.own ((srtI ns).reverse.map PyData.int)) := rfl
@[simp ↓] theorem fSortedR_l (ds : List PyData) (k : Sl → Prop) : fSortedR (.list ds) k = withD (intsOf ds) fun ns => k (.own ((srtI ns).reverse.map PyData.int)) := rfl
section
variable {X : Cx}
def rSortD (K : PySem.W.Frag) : List V → Hp → VK → Prop := fun vs H Q => ∃ (a : Addr) (xs : List V) (ds : List PyData) (P : V → PyData → Prop), vs = [V.ref a] ∧ SqL K H a xs ∧ DpAll K H xs ds ∧ Paired P xs ds ∧ SrtOk ds ∧
  ∀ (ys : List V) (p : Addr), Paired P ys (srtD ds) → H p = none → Q (.ref p) (upd H p (.lst ys))
theorem each_of {P : V → PyData → Prop} : ∀ {xs : List V} {us : List Value} {ds : List PyData}, Vals xs us → Paired P xs ds → PySem.W.EachIs (fun v d => ∃ x, RelV x v ∧ P x d) us ds
  | _, _, _, .nil, .nil => .nil
  | _, _, _, .cons r rs, .cons p ps => .cons ⟨_, r, p⟩ (each_of rs ps)
theorem of_each {P : V → PyData → Prop} : ∀ {us : List Value} {ds : List PyData}, PySem.W.EachIs (fun v d => ∃ x, RelV x v ∧ P x d) us ds → ∃ xs, Vals xs us ∧ Paired P xs ds
  | _, _, .nil => ⟨[], .nil, .nil⟩
  | _, _, .cons ⟨x, r, p⟩ t => by
    obtain ⟨xs, h1, h2⟩ := of_each t
    exact ⟨x :: xs, .cons r h1, .cons p h2⟩
theorem cr_sortD (hu : X.A.units + 200 < cLine) : CallR X (.builtin "sorted") (rSortD X.K) := by
  intro pins s σ H vs us Q I r ⟨a, xs, ds, P, e, hs, dp, pd, ok, q⟩
  subst e
  rw [Vals.ref1 r]
  obtain ⟨its, rv, pl, hz⟩ := I.list hs
  obtain ⟨as, rd⟩ := Dp.readsAll I ds xs its dp rv
  have er := PySem.W.readsAll_each (h := s.heap) id (bs := ds) (by rw [List.map_id]; exact rd)
  refine PySem.W.sorted_data (enc := id) pl.isList (each_of rv pd) er (by rw [List.map_id]; exact ok.al) (by rw [List.map_id]; exact ok.so) (line10 ok.len) (fun d hd => ?_) fun out hl eo => ?_
  · have := ok.dep d hd
    show X.A.units + 2 + d.depth < cLine
    omega
  · obtain ⟨ys, h1, h2⟩ := of_each eo
    obtain ⟨c, hc⟩ := sortedAll_at s.heap its out.toArray
    refine ⟨.ref _, upd H (s.heap.objs.size + 1) (.lst ys), I.laid (t' := s.toks) (fun _ _ => sortedAll_old) (Nat.le_succ _) ⟨?_, out, c, h1, hc⟩, rfl, q ys _ h2 (I.hok.fresh (Nat.le_succ _))⟩
    rw [h1.length, hl]
    exact line10 ok.len
theorem Paired.dd {K : PySem.W.Frag} {U : Hp} : ∀ {vs : List V} {ds : List PyData}, Paired (Dd K U) vs ds → DdAll K U vs ds
  | _, _, .nil => .nil
  | _, _, .cons h t => .cons h (Paired.dd t)
theorem DdAll.paired {K : PySem.W.Frag} {U : Hp} : ∀ {vs : List V} {ds : List PyData}, DdAll K U vs ds → Paired (Dd K U) vs ds
  | _, _, .nil => .nil
  | _, _, .cons h t => .cons h t.paired
variable {F : Fam}
theorem s_sorted (hu : X.A.units + 200 < cLine) : CallS F X (.builtin "sorted") fSorted := ⟨_, cr_srt.or (cr_sortD hu), fun C H U x d k Q e1 e2 w rx h q => by
  cases d with
  | list ds =>
    obtain ⟨a, vs, rfl, h1, h2⟩ := rx.list w
    simp only [fSorted] at h
    cases e : intsOf ds with
    | some ns =>
      simp only [e] at h
      obtain rfl := intsOf_eq e
      obtain rfl := h2.ints
      refine .inl ⟨a, ns, rfl, .inl (SqL.of h1), fun ms p hp ho hn => fin_own w hn ?_ h q⟩
      rw [srtI_uniq hp ho]; exact ddAll_ints _
    | none =>
      simp only [e] at h
      exact .inr ⟨a, vs, ds, Dd C.K U, rfl, SqL.of h1, e1 ▸ (h2.same w.sub).dp h.1.nd, h2.paired, h.1, fun ys p hp hn => fin_own w hn (Paired.dd hp) h.2 q⟩
  | tuple ds =>
    obtain ⟨a, vs, rfl, h1, h2, _⟩ := rx.tup w
    rw [fSorted_t, withD_ex] at h
    obtain ⟨ns, e, h⟩ := h
    obtain rfl := intsOf_eq e
    obtain rfl := h2.ints
    refine .inl ⟨a, ns, rfl, .inr (e1 ▸ h1), fun ms p hp ho hn => fin_own w hn ?_ h q⟩
    rw [srtI_uniq hp ho]; exact ddAll_ints _
  | _ => exact False.elim h⟩
/-! max, min, sum, all, any -/
def fMax : O1
  | .list ds, k => withD (intsOf ds) fun ns => ns ≠ [] ∧ k (.pub (.int (mxI ns)))
  | .tuple ds, k => withD (intsOf ds) fun ns => ns ≠ [] ∧ k (.pub (.int (mxI ns)))
  | _, _ => False
@[simp ↓] theorem fMax_l (ds : List PyData) (k : Sl → Prop) : fMax (.list ds) k = withD (intsOf ds) fun ns => ns ≠ [] ∧ k (.pub (.int (mxI ns))) := rfl
@[simp ↓] theorem fMax_t (ds : List PyData) (k : Sl → Prop) : fMax (.tuple ds) k = withD (intsOf ds) fun ns => ns ≠ [] ∧ k (.pub (.int (mxI ns))) := rfl
def fMin : O1
  | .list ds, k => withD (intsOf ds) fun ns => ns ≠ [] ∧ k (.pub (.int (mnI ns)))
  | .tuple ds, k => withD (intsOf ds) fun ns => ns ≠ [] ∧ k (.pub (.int (mnI ns)))
  | _, _ => False
@[simp ↓] theorem fMin_t (ds : List PyData) (k : Sl → Prop) : fMin (.tuple ds) k = withD (intsOf ds) fun ns => ns ≠ [] ∧ k (.pub (.int (mnI ns))) := rfl
@[simp ↓] theorem fMin_l (ds : List PyData) (k : Sl → Prop) : fMin (.list ds) k = withD (intsOf ds) fun ns => ns ≠ [] ∧ k (.pub (.int (mnI ns))) := rfl
def fSum : O1
  | .list ds, k => withD (intsOf ds) fun ns => k (.pub (.int ns.sum))
  | _, _ => False
@[simp ↓] theorem fSum_l (ds : List PyData) (k : Sl → Prop) : fSum (.list ds) k = withD (intsOf ds) fun ns => k (.pub (.int ns.sum)) := rfl
def fAll : O1
  | .list ds, k => withD (boolsOf ds) fun ns => k (.pub (.bool (ns.all id)))
  | _, _ => False
@[simp ↓] theorem fAll_l (ds : List PyData) (k : Sl → Prop) : fAll (.list ds) k = withD (boolsOf ds) fun ns => k (.pub (.bool (ns.all id))) := rfl
def fAny : O1
  | .list ds, k => withD (boolsOf ds) fun ns => k (.pub (.bool (ns.any id)))
  | _, _ => False
@[simp ↓] theorem fAny_l (ds : List PyData) (k : Sl → Prop) : fAny (.list ds) k = withD (boolsOf ds) fun ns => k (.pub (.bool (ns.any id))) := rfl
def fDefMax (d0 : Int) : O1
  | .list ds, k => withD (intsOf ds) fun ns => k (.pub (.int (mxD d0 ns)))
  | _, _ => False
@[simp ↓] theorem fDefMax_l (d0 : Int) (ds : List PyData) (k : Sl → Prop) : fDefMax d0 (.list ds) k = withD (intsOf ds) fun ns => k (.pub (.int (mxD d0 ns))) := rfl
def rMaxT (K : PySem.W.Frag) : List V → Hp → VK → Prop := fun vs H Q => ∃ (a : Addr) (n : Int) (ns : List Int), vs = [V.ref a] ∧ SqT K H a ((n :: ns).map V.int) ∧ Q (.int (ns.foldl max n)) H
theorem alikeA_ints (ns : List Int) : PySem.W.AlikeAll (ns.map PyData.int) := by
  refine ⟨fun x hx y hy => ?_, fun x hx z => ?_⟩
  · obtain ⟨a, _, rfl⟩ := List.mem_map.mp hx
    obtain ⟨b, _, rfl⟩ := List.mem_map.mp hy
    rfl
  · obtain ⟨a, _, rfl⟩ := List.mem_map.mp hx
    cases z
theorem cr_maxTI (hc : X.calm = true) (hu : X.A.units + 200 < cLine) : CallR X (.builtin "max") (rMaxT X.K) := by
  intro pins s σ H vs us Q I r ⟨a, n, ns, e, hs, q⟩
  subst e
  obtain ⟨its, rv, tp, hz⟩ := I.tuple hs
  rw [Vals.ref1 r]
  obtain ⟨as, rd⟩ := DqAll.reads I _ _ its (dq_ints (n :: ns)) rv
  refine PySem.W.max_tuple_data (I.ok.hd hc) tp rd (alikeA_ints (n :: ns)) ?_ fun i v h' tk bs hi hr hk => ?_
  · have := PySem.W.depth_ints (n :: ns)
    rw [List.map_cons] at this
    rw [this]; omega
  · rw [PySem.W.maxD_ints] at hr
    cases hr
    exact ⟨.int _, H, I.kept hk, ⟨_, rfl⟩, q⟩
def rMinT (K : PySem.W.Frag) : List V → Hp → VK → Prop := fun vs H Q => ∃ (a : Addr) (n : Int) (ns : List Int), vs = [V.ref a] ∧ SqT K H a ((n :: ns).map V.int) ∧ Q (.int (ns.foldl min n)) H
theorem cr_minTI (hc : X.calm = true) (hu : X.A.units + 200 < cLine) : CallR X (.builtin "min") (rMinT X.K) := by
  intro pins s σ H vs us Q I r ⟨a, n, ns, e, hs, q⟩
  subst e
  obtain ⟨its, rv, tp, hz⟩ := I.tuple hs
  rw [Vals.ref1 r]
  obtain ⟨as, rd⟩ := DqAll.reads I _ _ its (dq_ints (n :: ns)) rv
  refine PySem.W.min_tuple_data (I.ok.hd hc) tp rd (alikeA_ints (n :: ns)) ?_ fun i v h' tk bs hi hr hk => ?_
  · have := PySem.W.depth_ints (n :: ns)
    rw [List.map_cons] at this
    rw [this]; omega
  · rw [PySem.W.minD_ints] at hr
    cases hr
    exact ⟨.int _, H, I.kept hk, ⟨_, rfl⟩, q⟩
def rMaxDef (K : PySem.W.Frag) : List V → List V → Hp → VK → Prop := fun vs zs H Q => ∃ (a : Addr) (ns : List Int) (d : Int), vs = [V.ref a] ∧ zs = [.int d] ∧ SqL K H a (ns.map V.int) ∧ Q (.int (mxD d ns)) H
theorem cr_maxDef (hc : X.calm = true) (hu : X.A.units + 200 < cLine) : CallRK X (.builtin "max") [Str.ofString "default"] (rMaxDef X.K) := by
  intro pins s σ H vs zs us ws Q I r rz ⟨a, ns, d, e, ez, hs, q⟩
  subst e ez
  rw [Vals.ref1 r]
  obtain ⟨w1, rfl, e1⟩ := vals1 rz
  obtain ⟨its, rv, pl, hz⟩ := I.list hs
  obtain ⟨as, rd⟩ := DqAll.reads I _ _ its (dq_ints ns) rv
  refine PySem.W.max_list_default (I.ok.hd hc) pl.isList rd (alikeA_ints ns) ?_ (fun h0 h' tk hk => ?_) fun y ys i v h' tk bs hy hi hr hk => ?_
  · rw [PySem.W.depth_ints]; omega
  · have : ns = [] := by simpa using h0
    subst this
    exact ⟨.int d, H, I.kept hk, e1, q⟩
  · cases ns with
    | nil => cases hy
    | cons n ns =>
      cases hy
      rw [PySem.W.maxD_ints] at hr
      cases hr
      exact ⟨.int _, H, I.kept hk, ⟨_, rfl⟩, q⟩
theorem s_max (hc : X.calm = true) (hu : X.A.units + 200 < cLine) : CallS F X (.builtin "max") fMax := ⟨_, (cr_max hc).or (cr_maxTI hc hu), fun C H U x d k Q e1 e2 w rx h q => by
  cases d with
  | list ds =>
    obtain ⟨a, vs, rfl, h1, h2⟩ := rx.list w
    rw [fMax_l, withD_ex] at h
    obtain ⟨ns, e, h0, h⟩ := h
    obtain rfl := intsOf_eq e
    obtain rfl := h2.ints
    exact .inl ⟨a, ns, rfl, SqL.of h1, List.length_pos_iff.mpr h0, fun m m1 m2 => by rw [mxI_uniq m1 m2]; exact fin_pub w (.int _) h q⟩
  | tuple ds =>
    obtain ⟨a, vs, rfl, h1, h2, _⟩ := rx.tup w
    rw [fMax_t, withD_ex] at h
    obtain ⟨ns, e, h0, h⟩ := h
    obtain rfl := intsOf_eq e
    obtain rfl := h2.ints
    cases ns with
    | nil => exact absurd rfl h0
    | cons n ns => exact .inr ⟨a, n, ns, rfl, e1 ▸ h1, fin_pub w (.int _) h q⟩
  | _ => exact False.elim h⟩
theorem s_min (hc : X.calm = true) (hu : X.A.units + 200 < cLine) : CallS F X (.builtin "min") fMin := ⟨_, (cr_min hc).or (cr_minTI hc hu), fun C H U x d k Q e1 e2 w rx h q => by
  cases d with
  | list ds =>
    obtain ⟨a, vs, rfl, h1, h2⟩ := rx.list w
    rw [fMin_l, withD_ex] at h
    obtain ⟨ns, e, h0, h⟩ := h
    obtain rfl := intsOf_eq e
    obtain rfl := h2.ints
    exact .inl ⟨a, ns, rfl, SqL.of h1, List.length_pos_iff.mpr h0, fun m m1 m2 => by rw [mnI_uniq m1 m2]; exact fin_pub w (.int _) h q⟩
  | tuple ds =>
    obtain ⟨a, vs, rfl, h1, h2, _⟩ := rx.tup w
    rw [fMin_t, withD_ex] at h
    obtain ⟨ns, e, h0, h⟩ := h
    obtain rfl := intsOf_eq e
    obtain rfl := h2.ints
    cases ns with
    | nil => exact absurd rfl h0
    | cons n ns => exact .inr ⟨a, n, ns, rfl, e1 ▸ h1, fin_pub w (.int _) h q⟩
  | _ => exact False.elim h⟩
theorem s_sum (hc : X.calm = true) : CallS F X (.builtin "sum") fSum := ⟨_, cr_sum hc, fun C H U x d k Q e1 e2 w rx h q => by
  cases d with
  | list ds =>
    obtain ⟨a, vs, rfl, h1, h2⟩ := rx.list w
    rw [fSum_l, withD_ex] at h
    obtain ⟨ns, e, h⟩ := h
    obtain rfl := intsOf_eq e
    obtain rfl := h2.ints
    exact ⟨a, ns, rfl, SqL.of h1, fin_pub w (.int _) h q⟩
  | _ => exact False.elim h⟩
theorem s_all (hc : X.calm = true) : CallS F X (.builtin "all") fAll := ⟨_, cr_all hc, fun C H U x d k Q e1 e2 w rx h q => by
  cases d with
  | list ds =>
    obtain ⟨a, vs, rfl, h1, h2⟩ := rx.list w
    rw [fAll_l, withD_ex] at h
    obtain ⟨ns, e, h⟩ := h
    obtain rfl := boolsOf_eq e
    obtain rfl := h2.bools
    exact ⟨a, ns, rfl, SqL.of h1, fin_pub w (.bl _) h q⟩
  | _ => exact False.elim h⟩
theorem s_any (hc : X.calm = true) : CallS F X (.builtin "any") fAny := ⟨_, cr_any hc, fun C H U x d k Q e1 e2 w rx h q => by
  cases d with
  | list ds =>
    obtain ⟨a, vs, rfl, h1, h2⟩ := rx.list w
    rw [fAny_l, withD_ex] at h
    obtain ⟨ns, e, h⟩ := h
    obtain rfl := boolsOf_eq e
    obtain rfl := h2.bools
    exact ⟨a, ns, rfl, SqL.of h1, fin_pub w (.bl _) h q⟩
  | _ => exact False.elim h⟩
/-! one argument and a written keyword -/
variable {e : Expr} {wa wb wc : DE} {p pos : Pos}
theorem d_b1k {x : Str} {id : String} {f : O1} {nm : Option Str} {ks : List Str} {ek : Expr} {kpos : Pos} {vk : V} {r : List V → List V → Hp → VK → Prop} (hc : CallRK X (.builtin id) ks r) (hk : PE X ek (tC vk))
    (hR : ∀ (C : Ct) (H U : Hp) (x : V) (d : PyData) (k : Sl → Prop) (Q : VK), C.K = X.K → C.F = F → Wd C H U → Rdb C H U x d → f d k → (∀ s, k s → ∀ v H' U', ExtK C H U H' U' → NewOk C H H' U' v s → Q v H') → r [x] [vk] H Q)
    (hg : Gl X x) (hm : X.mg x = none) (hv : bootBuiltins x = some (.builtin id)) (ha : PE X e (lE F X.K wa)) (hn : x ≠ "__name__" := by decide) (hdb : (x == ("__debug__" : Str)) = false := by decide)
    (hs : starEach [e] X.env = (false, eval e X.env) :: starEach [] X.env := by rfl)
    (he : backTo pos (starEach [e] X.env) = (false, eval e X.env) :: backTo pos (starEach [] X.env) := by rfl) (hpl : (backTo pos (starEach [e] X.env)).any (·.1) = false := by rfl)
    (hall : (backToKw pos (keywordEach [⟨nm, ek, kpos⟩] X.env)).all (·.1.isSome) = true := by rfl) (hnone : (backToKw pos (keywordEach [⟨nm, ek, kpos⟩] X.env)).any (·.1.isNone) = false := by rfl) (hks : (backToKw pos (keywordEach [⟨nm, ek, kpos⟩] X.env)).filterMap (·.1) = ks := by rfl) :
    PE X (.Call (.Name x p) [e] [⟨nm, ek, kpos⟩] pos) (lE F X.K (x1 f wa)) :=
  PE.imp (pe_callBK hc hg hm hv (da_cons ha da_nil hs) (pk_cons hk pk_nil) hn hdb he hpl hall hnone hks) fun σ H Q h => one (r := fun vs H Q => r vs [vk] H Q) hR h
theorem d_defMax {j} {d0 : Int} {p2 kpos : Pos} (hc : X.calm = true) (hu : X.A.units + 200 < cLine) (hg : Gl X "max") (hm : X.mg "max" = none) (ha : PE X e (lE F X.K wa))
    (hs : starEach [e] X.env = (false, eval e X.env) :: starEach [] X.env := by rfl)
    (he : backTo pos (starEach [e] X.env) = (false, eval e X.env) :: backTo pos (starEach [] X.env) := by rfl) (hpl : (backTo pos (starEach [e] X.env)).any (·.1) = false := by rfl)
    (hall : (backToKw pos (keywordEach [⟨some "default", .Constant (.int d0) j p2, kpos⟩] X.env)).all (·.1.isSome) = true := by rfl) (hnone : (backToKw pos (keywordEach [⟨some "default", .Constant (.int d0) j p2, kpos⟩] X.env)).any (·.1.isNone) = false := by rfl) (hks : (backToKw pos (keywordEach [⟨some "default", .Constant (.int d0) j p2, kpos⟩] X.env)).filterMap (·.1) = [Str.ofString "default"] := by rfl) :
    PE X (.Call (.Name "max" p) [e] [⟨some "default", .Constant (.int d0) j p2, kpos⟩] pos) (lE F X.K (x1 (fDefMax d0) wa)) :=
  d_b1k (cr_maxDef hc hu) pe_int (fun C H U x d k Q e1 e2 w rx h q => by
    cases d with
    | list ds =>
      obtain ⟨a, vs, rfl, h1, h2⟩ := rx.list w
      rw [fDefMax_l, withD_ex] at h
      obtain ⟨ns, e, h⟩ := h
      obtain rfl := intsOf_eq e
      obtain rfl := h2.ints
      exact ⟨a, ns, d0, rfl, rfl, SqL.of h1, fin_pub w (.int _) h q⟩
    | _ => exact False.elim h) hg hm (by decide +kernel) ha (by decide) (by decide) hs he hpl hall hnone hks
theorem d_sortedR {j} {p2 kpos : Pos} (hg : Gl X "sorted") (hm : X.mg "sorted" = none) (ha : PE X e (lE F X.K wa))
    (hs : starEach [e] X.env = (false, eval e X.env) :: starEach [] X.env := by rfl)
    (he : backTo pos (starEach [e] X.env) = (false, eval e X.env) :: backTo pos (starEach [] X.env) := by rfl) (hpl : (backTo pos (starEach [e] X.env)).any (·.1) = false := by rfl)
    (hall : (backToKw pos (keywordEach [⟨some "reverse", .Constant (.bool true) j p2, kpos⟩] X.env)).all (·.1.isSome) = true := by rfl) (hnone : (backToKw pos (keywordEach [⟨some "reverse", .Constant (.bool true) j p2, kpos⟩] X.env)).any (·.1.isNone) = false := by rfl) (hks : (backToKw pos (keywordEach [⟨some "reverse", .Constant (.bool true) j p2, kpos⟩] X.env)).filterMap (·.1) = [Str.ofString "reverse"] := by rfl) :
    PE X (.Call (.Name "sorted" p) [e] [⟨some "reverse", .Constant (.bool true) j p2, kpos⟩] pos) (lE F X.K (x1 fSortedR wa)) :=
  d_b1k (cr_srtRev (b := true)) pe_bl (fun C H U x d k Q e1 e2 w rx h q => by
    cases d with
    | list ds =>
      obtain ⟨a, vs, rfl, h1, h2⟩ := rx.list w
      rw [fSortedR_l, withD_ex] at h
      obtain ⟨ns, e, h⟩ := h
      obtain rfl := intsOf_eq e
      obtain rfl := h2.ints
      refine ⟨rfl, a, ns, rfl, .inl (SqL.of h1), fun ms p hp ho hn => fin_own w hn ?_ h q⟩
      rw [srtI_rev hp ho]; exact ddAll_ints _
    | tuple ds =>
      obtain ⟨a, vs, rfl, h1, h2, _⟩ := rx.tup w
      rw [fSortedR_t, withD_ex] at h
      obtain ⟨ns, e, h⟩ := h
      obtain rfl := intsOf_eq e
      obtain rfl := h2.ints
      refine ⟨rfl, a, ns, rfl, .inr (e1 ▸ h1), fun ms p hp ho hn => fin_own w hn ?_ h q⟩
      rw [srtI_rev hp ho]; exact ddAll_ints _
    | _ => exact False.elim h) hg hm (by decide +kernel) ha (by decide) (by decide) hs he hpl hall hnone hks
/-! isinstance -/
def fIsi (f : PyData → Bool) : O1 := fun d k => k (.pub (.bool (f d)))
@[simp ↓] theorem fIsi_s (f : PyData → Bool) (d : PyData) (k : Sl → Prop) : fIsi f d k = k (.pub (.bool (f d))) := rfl
theorem d_isi {T : String} {y : Str} {p2 : Pos} {f : PyData → Bool} (hf : ∀ (K : PySem.W.Frag) (d : PyData), PySem.W.kitOne K (.type (tyN d)) (.type T) = some (f d)) (hm : X.mg "isinstance" = none) (hy : X.mg y = none) (hv : bootBuiltins y = some (.type T)) (ha : PE X e (lE F X.K wa)) (hg : Gl X "isinstance" := by rfl) (hgy : Gl X y := by rfl)
    (hn : y ≠ "__name__" := by decide) (hdb : (y == ("__debug__" : Str)) = false := by decide)
    (he : starEach [e, .Name y p2] X.env = (false, eval e X.env) :: starEach [.Name y p2] X.env := by rfl) (he2 : starEach [.Name y p2] X.env = (false, eval (.Name y p2) X.env) :: starEach [] X.env := by rfl) (hpl : (backTo pos (starEach [.Name y p2] X.env)).any (·.1) = false := by rfl) :
    PE X (.Call (.Name "isinstance" p) [e, .Name y p2] [] pos) (lE F X.K (x1 (fIsi f) wa)) := by
  refine PE.imp (pe_callB call_isi hg hm (by decide +kernel) (pa_cons ha (pa_cons (pe_bltn (v := .ty T) hgy hy hv rfl hn hdb) pa_nil he2) he) (by decide) (by decide) he hpl) fun σ H Q ⟨C, δ, U, k, e1, e2, en, w, q⟩ => ?_
  refine ⟨C, δ, U, _, e1, e2, en, w, fun r δ1 hk v H1 U1 s1 en1 o1 => ?_⟩
  obtain ⟨U2, s2, en2, ho2⟩ := hold_of en1 o1
  obtain ⟨x, hx, hf2⟩ := hk
  have rb := rdb_of en2 ho2 hx
  exact ⟨v, .ty T, _, _, _, rfl, .ty T, e1 ▸ ((rb.ddH en2.wd).dq).ty, hf _ x, q _ δ1 hf2 _ H1 U2 (s1.trans s2) en2 (show Dd _ _ _ _ from .bl _)⟩
@[simp] theorem isIntD_i (i : Int) : isIntD (.int i) = true := rfl
@[simp] theorem isBoolD_i (i : Int) : isBoolD (.int i) = false := rfl
@[simp] theorem isTupD_t (ds : List PyData) : isTupD (.tuple ds) = true := rfl
/-! chains -/
def xCh (f g : O2) (wa wb wc : DE) (δ : DEnv) (Q : Sl → DEnv → Prop) : Prop := wa δ fun r δ1 => wb δ1 fun s δ2 => ∃ x y, rd δ2 r = some x ∧ rd δ2 s = some y ∧ f x y fun z => ∃ c, z = .pub (.bool c) ∧ if c = true then wc δ2 fun t δ3 => ∃ y' u, rd δ3 s = some y' ∧ rd δ3 t = some u ∧ g y' u fun z => Q z δ3 else Q (.pub (.bool false)) δ2
end
end DX

namespace DX
open PySem PySem.Spec L2 KX
open PyProof.Rows hiding St
section
variable {X : Cx} {F : Fam} {e a b c : Expr} {wa wb wc : DE} {p pos : Pos}
/-! chains -/
theorem chain_ok {f g : O2} {r r' : R2} (h1 : ∀ (C : Ct) (H U : Hp) (x y : V) (d e : PyData) (k : Sl → Prop) (Q : VK), C.K = X.K → C.F = F → Wd C H U → Rdb C H U x d → Rdb C H U y e → f d e k →
      (∀ s, k s → ∀ v H' U', ExtK C H U H' U' → NewOk C H H' U' v s → Q v H') → r x y H Q)
    (h2 : ∀ (C : Ct) (H U : Hp) (x y : V) (d e : PyData) (k : Sl → Prop) (Q : VK), C.K = X.K → C.F = F → Wd C H U → Rdb C H U x d → Rdb C H U y e → g d e k →
      (∀ s, k s → ∀ v H' U', ExtK C H U H' U' → NewOk C H H' U' v s → Q v H') → r' x y H Q) {σ : L2.St} {H : Hp} {Q : VK} (h : lE F X.K (xCh f g wa wb wc) σ H Q) : tChain r r' (lE F X.K wa) (lE F X.K wb) (lE F X.K wc) σ H Q := by
  obtain ⟨C, δ, U, k, e1, e2, en, w, q⟩ := h
  refine ⟨C, δ, U, _, e1, e2, en, w, fun r1 δ1 w1 v1 H1 U1 s1 en1 o1 => ?_⟩
  obtain ⟨U1', s1', en1', hh1⟩ := hold_of en1 o1
  refine ⟨C, δ1, U1', _, e1, e2, en1', w1, fun r2 δ2 w2 v2 H2 U2 s2 en2 o2 => ?_⟩
  obtain ⟨U2', s2', en2', hh2⟩ := hold_of en2 o2
  obtain ⟨x, y, rx, ry, hf⟩ := w2
  refine h1 C H2 U2' v1 v2 x y _ _ e1 e2 en2'.wd (rdb_of en2' (hh1.mono (s2.trans s2')) rx) (rdb_of en2' hh2 ry) hf fun s hs v H3 U3 x3 ok => ?_
  obtain ⟨c, rfl, hc⟩ := hs
  cases ok
  refine ⟨c, rfl, ?_⟩
  have en3 := en2'.ext x3
  have sm := s1.trans (s1'.trans (s2.trans (s2'.trans x3.us)))
  cases c with
  | false => exact iteF (q (.pub (.bool false)) δ2 (by simpa using hc) _ H3 U3 sm en3 (show Dd _ _ _ _ from .bl false))
  | true =>
    rw [if_pos rfl] at hc
    refine iteT ⟨C, δ2, U3, _, e1, e2, en3, hc, fun r4 δ4 w4 v4 H4 U4 s4 en4 o4 => ?_⟩
    obtain ⟨U4', s4', en4', hh4⟩ := hold_of en4 o4
    obtain ⟨y', u, ry', ru, hg⟩ := w4
    refine h2 C H4 U4' v2 v4 y' u _ _ e1 e2 en4'.wd (rdb_of en4' (hh2.mono (x3.us.trans (s4.trans s4'))) ry') (rdb_of en4' hh4 ru) hg fun s hs v H' U' x' ok => ?_
    exact q s δ4 hs v H' U' (sm.trans (s4.trans (s4'.trans x'.us))) (en4'.ext x') (rs_new en4' x' ok)
theorem d_chain {op op' : CmpOp} {f g : O2} (o : OpS F X (compareOp op) f) (o' : OpS F X (compareOp op') g) (ha : PE X a (lE F X.K wa)) (hb : PE X b (lE F X.K wb)) (hc : PE X c (lE F X.K wc)) (hm : lastMarks [op, op'] [b, c] = false := by with_unfolding_all rfl) :
    PE X (.Compare a [op, op'] [b, c] pos) (lE F X.K (xCh f g wa wb wc)) := by
  obtain ⟨r, h1, h2⟩ := o
  obtain ⟨r', h3, h4⟩ := o'
  exact PE.imp (pe_chain h1 h3 ha hb hc hm) fun σ H Q h => chain_ok h2 h4 h
theorem dt_chain {op op' : CmpOp} {f g : O2} (o : OpS F X (compareOp op) f) (o' : OpS F X (compareOp op') g) (ha : PE X a (lE F X.K wa)) (hb : PE X b (lE F X.K wb)) (hc : PE X c (lE F X.K wc)) (hm : lastMarks [op, op'] [b, c] = false := by with_unfolding_all rfl) :
    PT X (.Compare a [op, op'] [b, c] pos) (lT F X.K (tV (xCh f g wa wb wc))) := by
  obtain ⟨r, h1, h2⟩ := o
  obtain ⟨r', h3, h4⟩ := o'
  exact PT.imp (pt_chain h1 h3 ha hb hc hm) (test_of fun σ H Q h => chain_ok h2 h4 h)
def boolK (f : Bool → Prop) (z : Sl) (_ : Tag f := ()) : Prop := match z with
  | .pub (.bool c) => f c
  | _ => False
@[simp ↓] theorem boolK_s (f : Bool → Prop) (c : Bool) : boolK f (.pub (.bool c)) = f c := rfl
theorem boolK_ex (f : Bool → Prop) (z : Sl) : boolK f z = ∃ c, z = .pub (.bool c) ∧ f c := by
  apply propext
  constructor
  · intro h
    unfold boolK at h
    split at h
    · exact ⟨_, rfl, h⟩
    · exact h.elim
  · rintro ⟨x, rfl, h⟩; exact h
@[simp ↓] theorem xCh_s (f g : O2) (δ : DEnv) (Q : Sl → DEnv → Prop) : xCh f g wa wb wc δ Q = wa δ fun r δ1 => wb δ1 fun s δ2 => withD (rd δ2 r) fun x => withD (rd δ2 s) fun y => f x y fun z => boolK (fun c => cnd c (wc δ2 fun t δ3 => withD (rd δ3 s) fun y' => withD (rd δ3 t) fun u => g y' u fun z => Q z δ3) (Q (.pub (.bool false)) δ2)) z := by
  unfold xCh
  congr; funext r δ1; congr; funext s δ2
  have e : (fun (z : Sl) => boolK (fun c => cnd c (wc δ2 fun t δ3 => withD (rd δ3 s) fun y' => withD (rd δ3 t) fun u => g y' u fun z => Q z δ3) (Q (.pub (.bool false)) δ2)) z) = fun z => ∃ c, z = .pub (.bool c) ∧ if c = true then wc δ2 fun t δ3 => ∃ y' u, rd δ3 s = some y' ∧ rd δ3 t = some u ∧ g y' u fun z => Q z δ3 else Q (.pub (.bool false)) δ2 := by
    funext z
    rw [boolK_ex]
    have e2 : (fun (t : Sl) (δ3 : DEnv) => withD (rd δ3 s) fun y' => withD (rd δ3 t) fun u => g y' u fun z => Q z δ3) = fun t δ3 => ∃ y' u, rd δ3 s = some y' ∧ rd δ3 t = some u ∧ g y' u fun z => Q z δ3 := by
      funext t δ3
      rw [withD_ex]
      apply propext
      constructor
      · rintro ⟨y', h1, h2⟩; rw [withD_ex] at h2; obtain ⟨u, h2, h3⟩ := h2; exact ⟨y', u, h1, h2, h3⟩
      · rintro ⟨y', u, h1, h2, h3⟩; exact ⟨y', h1, by rw [withD_ex]; exact ⟨u, h2, h3⟩⟩
    rw [e2]
    rfl
  rw [e, withD_ex]
  apply propext
  constructor
  · rintro ⟨x, y, h1, h2, h3⟩; exact ⟨x, h1, by rw [withD_ex]; exact ⟨y, h2, h3⟩⟩
  · rintro ⟨x, h1, h2⟩; rw [withD_ex] at h2; obtain ⟨y, h2, h3⟩ := h2; exact ⟨x, y, h1, h2, h3⟩
/-! in, whatever the data -/
def oInD : O2
  | d, .list ds, k => eqOk d ∧ eqOk (.list ds) ∧ k (.pub (.bool (inD d ds)))
  | d, .tuple ds, k => eqOk d ∧ eqOk (.tuple ds) ∧ k (.pub (.bool (inD d ds)))
  | _, _, _ => False
def oNotInD : O2
  | d, .list ds, k => eqOk d ∧ eqOk (.list ds) ∧ k (.pub (.bool (!inD d ds)))
  | d, .tuple ds, k => eqOk d ∧ eqOk (.tuple ds) ∧ k (.pub (.bool (!inD d ds)))
  | _, _, _ => False
@[simp ↓] theorem oInD_l (d : PyData) (l : List PyData) (k : Sl → Prop) : oInD d (.list l) k = (eqOk d ∧ eqOk (.list l) ∧ k (.pub (.bool (inD d l)))) := by cases d <;> rfl
@[simp ↓] theorem oInD_t (d : PyData) (l : List PyData) (k : Sl → Prop) : oInD d (.tuple l) k = (eqOk d ∧ eqOk (.tuple l) ∧ k (.pub (.bool (inD d l)))) := by cases d <;> rfl
@[simp ↓] theorem oNotInD_l (d : PyData) (l : List PyData) (k : Sl → Prop) : oNotInD d (.list l) k = (eqOk d ∧ eqOk (.list l) ∧ k (.pub (.bool (!inD d l)))) := by cases d <;> rfl
@[simp ↓] theorem oNotInD_t (d : PyData) (l : List PyData) (k : Sl → Prop) : oNotInD d (.tuple l) k = (eqOk d ∧ eqOk (.tuple l) ∧ k (.pub (.bool (!inD d l)))) := by cases d <;> rfl
def rInA (K : PySem.W.Frag) (neg : Bool) : R2 := fun x y H Q => ∃ d ds, Dp K H x d ∧ (Dp K H y (.list ds) ∨ Dp K H y (.tuple ds)) ∧ SeqAt.shaped d = true ∧ PyData.canLayAll0 ds = true ∧ Q (.bl (if neg then !(ds.any fun z => PyData.eqv z d) else ds.any fun z => PyData.eqv z d)) H
theorem room_in {A : Around} {d : PyData} {ds : List PyData} (hs : SeqAt.shaped d = true) (hu : A.units + 200 < cLine) : A.units + 1 + min (PyData.depthAll ds) d.depth < cLine := by
  have h1 := SeqAt.depth_of_shaped hs
  have h2 : min (PyData.depthAll ds) d.depth ≤ d.depth := Nat.min_le_right _ _
  omega
theorem op_inA (hu : X.A.units + 200 < cLine) : OpR X (compareOp .In) (rInA X.K false) := by
  intro pins s σ H x y v u Q I rx ry h
  obtain ⟨d, ds, hd, he, sd, se, q⟩ := h
  obtain ⟨as, r1⟩ := Dp.reads I d x v hd rx
  rcases he with he | he
  · obtain ⟨bs, r2⟩ := Dp.reads I (.list ds) y u he ry
    exact SeqAt.in_list_reads r2 r1 se (SeqAt.canLay_of_shaped sd) (room_in sd hu) ⟨.bl _, H, I, rfl, q⟩
  · obtain ⟨bs, r2⟩ := Dp.reads I (.tuple ds) y u he ry
    exact PySem.SeqAt.in_tuple_data r2 r1 (PyData.plainAll_of_canLay0 _ se) (PyData.plain_of_canLay0 _ (SeqAt.canLay_of_shaped sd)) (room_in sd hu) ⟨.bl _, H, I, rfl, q⟩
theorem op_notInA (hu : X.A.units + 200 < cLine) : OpR X (compareOp .NotIn) (rInA X.K true) := by
  intro pins s σ H x y v u Q I rx ry h
  obtain ⟨d, ds, hd, he, sd, se, q⟩ := h
  obtain ⟨as, r1⟩ := Dp.reads I d x v hd rx
  rcases he with he | he
  · obtain ⟨bs, r2⟩ := Dp.reads I (.list ds) y u he ry
    exact SeqAt.notIn_list_reads r2 r1 se (SeqAt.canLay_of_shaped sd) (room_in sd hu) ⟨.bl _, H, I, rfl, q⟩
  · obtain ⟨bs, r2⟩ := Dp.reads I (.tuple ds) y u he ry
    exact PySem.SeqAt.notIn_tuple_data r2 r1 (PyData.plainAll_of_canLay0 _ se) (PyData.plain_of_canLay0 _ (SeqAt.canLay_of_shaped sd)) (room_in sd hu) ⟨.bl _, H, I, rfl, q⟩
theorem s_inD (hu : X.A.units + 200 < cLine) : OpS F X (compareOp .In) oInD := ⟨_, op_inA hu, fun C H U x y d e k Q e1 e2 w rx ry h q => by
  cases e with
  | list ds =>
    rw [oInD_l] at h
    exact ⟨d, ds, e1 ▸ (rx.ddH w).dp h.1.1, .inl (e1 ▸ (ry.ddH w).dp h.2.1.1), h.1.2, by have := SeqAt.canLay_of_shaped h.2.1.2; simpa [PyData.canLay0] using this, fin_pub w (.bl _) h.2.2 q⟩
  | tuple ds =>
    rw [oInD_t] at h
    exact ⟨d, ds, e1 ▸ (rx.ddH w).dp h.1.1, .inr (e1 ▸ (ry.ddH w).dp h.2.1.1), h.1.2, by have := SeqAt.canLay_of_shaped h.2.1.2; simpa [PyData.canLay0] using this, fin_pub w (.bl _) h.2.2 q⟩
  | _ => exact False.elim (by cases d <;> exact h)⟩
theorem s_notinD (hu : X.A.units + 200 < cLine) : OpS F X (compareOp .NotIn) oNotInD := ⟨_, op_notInA hu, fun C H U x y d e k Q e1 e2 w rx ry h q => by
  cases e with
  | list ds =>
    rw [oNotInD_l] at h
    exact ⟨d, ds, e1 ▸ (rx.ddH w).dp h.1.1, .inl (e1 ▸ (ry.ddH w).dp h.2.1.1), h.1.2, by have := SeqAt.canLay_of_shaped h.2.1.2; simpa [PyData.canLay0] using this, fin_pub w (.bl _) h.2.2 q⟩
  | tuple ds =>
    rw [oNotInD_t] at h
    exact ⟨d, ds, e1 ▸ (rx.ddH w).dp h.1.1, .inr (e1 ▸ (ry.ddH w).dp h.2.1.1), h.1.2, by have := SeqAt.canLay_of_shaped h.2.1.2; simpa [PyData.canLay0] using this, fin_pub w (.bl _) h.2.2 q⟩
  | _ => exact False.elim (by cases d <;> exact h)⟩
/-! xs.index(y), xs a list -/
def withL (o : Option PyData) (f : List PyData → Prop) (_ : Tag f := ()) : Prop := match o with
  | some (.list x) => f x
  | _ => False
@[simp ↓] theorem withL_s (x : List PyData) (f : List PyData → Prop) : withL (some (.list x)) f = f x := rfl
theorem withL_ex (o : Option PyData) (f : List PyData → Prop) : withL o f = ∃ x, o = some (.list x) ∧ f x := by
  apply propext
  constructor
  · intro h
    unfold withL at h
    split at h
    · exact ⟨_, rfl, h⟩
    · exact h.elim
  · rintro ⟨x, rfl, h⟩; exact h
def xIdx (wa wb : DE) (δ : DEnv) (Q : Sl → DEnv → Prop) : Prop := wa δ fun r δ1 => withL (rd δ1 r) fun _ => wb δ1 fun s δ2 => withL (rd δ2 r) fun ds => withD (rd δ2 s) fun d => eqOk (.list ds) ∧ eqOk d ∧ withD (ds.findIdx? fun z => PyData.eqv z d) fun j => Q (.pub (.int (j : Int))) δ2
@[simp ↓] theorem xIdx_s (δ : DEnv) (Q : Sl → DEnv → Prop) : xIdx wa wb δ Q = wa δ fun r δ1 => withL (rd δ1 r) fun _ => wb δ1 fun s δ2 => withL (rd δ2 r) fun ds => withD (rd δ2 s) fun d => eqOk (.list ds) ∧ eqOk d ∧ withD (ds.findIdx? fun z => PyData.eqv z d) fun j => Q (.pub (.int (j : Int))) δ2 := rfl
theorem d_indexL {o : Expr} {apos cpos : Pos} (hu : X.A.units + 200 < cLine) (ho : PE X o (lE F X.K wa)) (hb : PE X e (lE F X.K wb)) (hbase : attributeBase o "index" X.env (eval o X.env) = eval o X.env := by rfl)
    (hfew : ((backTo cpos (starEach [e] X.env)).all (fun x => !x.1) && (backToKw cpos (keywordEach [] X.env)).all (fun x => x.1.isSome)
      && decide ([e].length + ([] : List Keyword).length + (if ([] : List Keyword).isEmpty then 0 else 1) < 30)) = true := by rfl)
    (hline : (apos.endLine == cpos.line) = true := by rfl) (hs : starEach [e] X.env = (false, eval e X.env) :: starEach [] X.env := by rfl) (hplain : (backTo cpos (starEach ([] : List Expr) X.env)).any (·.1) = false := by rfl) :
    PE X (.Call (.Attribute o "index" apos) [e] [] cpos) (lE F X.K (xIdx wa wb)) := PE.imp (pe_bm PySem.F.plainAttrs_list PySem.F.slot_list_index PySem.F.type_list_index (mt_indexD (by omega)) ho (pa_cons hb pa_nil hs) hbase hfew hline hs hplain) fun σ H Q ⟨C, δ, U, k, e1, e2, en, w, q⟩ => by
  refine ⟨C, δ, U, _, e1, e2, en, w, fun r1 δ1 w1 v1 H1 U1 s1 en1 o1 => ?_⟩
  obtain ⟨U1', s1', en1', h1⟩ := hold_of en1 o1
  rw [withL_ex] at w1
  obtain ⟨ds0, hr0, w1⟩ := w1
  obtain ⟨a0, vs0, rfl, hl0, _⟩ := (rdb_of en1' h1 hr0).list en1'.wd
  refine ⟨.inl ⟨rfl, vs0, SqL.of hl0⟩, C, δ1, U1', _, e1, e2, en1', w1, fun r2 δ2 w2 v2 H2 U2 s2 en2 o2 => ?_⟩
  obtain ⟨U2', s2', en2', h2⟩ := hold_of en2 o2
  rw [withL_ex] at w2
  obtain ⟨ds, hr, w2⟩ := w2
  rw [withD_ex] at w2
  obtain ⟨d, hd, ok1, ok2, w2⟩ := w2
  rw [withD_ex] at w2
  obtain ⟨j, hj, w2⟩ := w2
  have rx := rdb_of en2' (h1.mono (s2.trans s2')) hr
  have ry := rdb_of en2' h2 hd
  rw [List.findIdx?_eq_some_iff_getElem] at hj
  obtain ⟨jl, j1, j2⟩ := hj
  refine ⟨a0, v2, d, ds, j, ds[j], rfl, rfl, e1 ▸ (rx.ddH en2'.wd).dp ok1.1, e1 ▸ (ry.ddH en2'.wd).dp ok2.1, ok1.2, ok2.2, List.getElem?_eq_getElem jl, j1, fun m z' hm hz => ?_, ?_⟩
  · obtain ⟨ml, rfl⟩ := List.getElem?_eq_some_iff.mp hz
    have := j2 m hm
    simpa using this
  · exact q _ δ2 w2 _ H2 U2' (s1.trans (s1'.trans (s2.trans s2'))) en2' (show Dd _ _ _ _ from .int _)
/-! module constants -/
theorem d_glob {x : Str} {n : Int} {u : Value} (hm : X.mg x = some u ∧ RelV (.int n) u) (hg : Gl X x := by rfl) (hd : (x == ("__debug__" : Str)) = false := by decide) : PE X (.Name x pos) (lE F X.K (xC (.int n))) := d_c (pe_glob hg hm.1 hm.2 hd) fun _ => .int n
/-! reversed -/
def iRv (wa : DE) (δ : DEnv) (Q : List PyData → DEnv → Prop) : Prop := xP wa δ fun r δ1 => ∃ ds, (r = .pub (.list ds) ∨ r = .pub (.tuple ds)) ∧ Q ds.reverse δ1
@[simp ↓] theorem iRv_s (δ : DEnv) (Q : List PyData → DEnv → Prop) : iRv wa δ Q = wa δ fun r δ1 => pubK (fun r δ1 => withS r fun ds => Q ds.reverse δ1) r δ1 := by
  unfold iRv; rw [xP_s]
  have : (fun (r : Sl) (δ1 : DEnv) => ∃ ds, (r = .pub (.list ds) ∨ r = .pub (.tuple ds)) ∧ Q ds.reverse δ1) = fun r δ1 => withS r fun ds => Q ds.reverse δ1 := by
    funext r δ1; rw [withS_ex]
  rw [this]
theorem walk_revT {K : PySem.W.Frag} {a : Addr} {xs : List V} : Walk (RT.ItvT K a xs.length) xs.length (fun H => SqT K H a xs) (fun i H x H' => H' = H ∧ xs[xs.length - 1 - i]? = some x) :=
  ⟨fun i _ hi q => ⟨hi, xs, xs[xs.length - 1 - i], q, List.getElem?_eq_getElem (by omega)⟩, fun _ _ => Nat.le_refl _, fun _ _ _ _ _ q y => ⟨y.1, y.2 xs q⟩⟩
theorem walk_rv {C : Ct} {U0 : Hp} {vs : List V} {ds : List PyData} {J : It} {G : Hp → Prop} (w : Walk J vs.length G (fun i H x H' => H' = H ∧ vs[vs.length - 1 - i]? = some x)) (hd : DdAll C.K U0 vs ds) (hG : ∀ H U, Same U0 U → Same U H → G H) : WalkD true C U0 J ds.reverse := by
  refine ⟨G, _, (by rw [List.length_reverse, ← hd.len]; exact w), hG, fun i H U x H' wd s hi y => ?_⟩
  obtain ⟨rfl, hx⟩ := y
  obtain ⟨d, h1, h2⟩ := hd.getV hx
  rw [List.length_reverse] at hi
  refine ⟨U, d, Ext.refl wd, ?_, .inl (Dd.same s h2)⟩
  rw [List.getElem?_reverse hi, ← hd.len]
  exact h1
theorem di_rev {tg : Expr} (hg : Gl X "reversed") (hm : X.mg "reversed" = none) (h : PE X e (lE F X.K wa)) (hs : starEach [e] X.env = (false, eval e X.env) :: starEach [] X.env := by rfl) : PI X tg (.Call (.Name "reversed" p) [e] [] pos) (lI true F X.K (iRv wa)) := PI.imp (RT.pi_revA hg hm (d_p h) hs) fun σ H R ⟨C, δ, U, k, e1, e2, en, w, q⟩ => by
  refine ⟨C, δ, U, _, e1, e2, en, w, fun r δ' hk v H' U' s en' o => ?_⟩
  obtain ⟨ds, hr, hk⟩ := hk
  rcases hr with rfl | rfl
  · cases o with
    | lst hl ha =>
      refine ⟨_, _, rfl, .inl ⟨SqL.of (en'.wd.sub _ _ hl), q _ δ' hk _ H' U' s en' fun C' hC => ?_⟩⟩
      exact walk_rv walk_rev (by rw [hC, ← e1]; exact ha) fun H U s1 s2 => SqL.of (s2 _ _ (s1 _ _ hl))
  · cases o with
    | tup hl ha =>
      refine ⟨_, _, rfl, .inr ⟨(hl.same en'.wd.sub).sq, q _ δ' hk _ H' U' s en' fun C' hC => ?_⟩⟩
      exact walk_rv walk_revT (by rw [hC, ← e1]; exact ha) fun H U s1 s2 => (hl.same (s1.trans s2)).sq
/-! slices of lists with a step -/
def pickD (xs : List PyData) (lo hi st : Option Int) : List PyData := (sliceRange (sliceBounds lo hi st xs.length).1 (sliceBounds lo hi st xs.length).2.1 (sliceBounds lo hi st xs.length).2.2).filterMap (xs[·]?)
def xStp (w : DE) (wl wh ws : DO) (δ : DEnv) (Q : Sl → DEnv → Prop) : Prop := w δ fun r δ1 => wl δ1 fun lo δ2 => wh δ2 fun hi δ3 => ws δ3 fun st δ4 => st ≠ some 0 ∧ withL (rd δ4 r) fun ds => Q (.own (pickD ds lo hi st)) δ4
@[simp ↓] theorem xStp_s (wl wh ws : DO) (δ : DEnv) (Q : Sl → DEnv → Prop) : xStp wa wl wh ws δ Q = wa δ fun r δ1 => wl δ1 fun lo δ2 => wh δ2 fun hi δ3 => ws δ3 fun st δ4 => st ≠ some 0 ∧ withL (rd δ4 r) fun ds => Q (.own (pickD ds lo hi st)) δ4 := rfl
theorem d_stp {s1 : Expr} {lo hi : Option Expr} {wl wh ws : DO} {p2 : Pos} (he : PE X e (lE F X.K wa)) (hl : PO X lo (lO F X.K wl)) (hu : PO X hi (lO F X.K wh)) (hst : PO X (some s1) (lO F X.K ws)) : PE X (.Subscript e (.Slice lo hi (some s1) p2) pos) (lE F X.K (xStp wa wl wh ws)) := PE.imp (pe_step he hl hu hst) fun σ H Q ⟨C, δ, U, k, e1, e2, en, w, q⟩ => by
  refine ⟨C, δ, U, _, e1, e2, en, w, fun r δ' hk v H' U0 s0 en0 o => ?_⟩
  obtain ⟨U', s1, en', ho⟩ := hold_of en0 o
  refine ⟨C, δ', U', _, e1, e2, en', hk, fun l δ2 hk2 H2 U2 s2 en2 => ?_⟩
  refine ⟨C, δ2, U2, _, e1, e2, en2, hk2, fun u δ3 hk3 H3 U3 s3 en3 => ?_⟩
  refine ⟨C, δ3, U3, _, e1, e2, en3, hk3, fun t δ4 hk4 H4 U4 s4 en4 => ?_⟩
  obtain ⟨h0, hk4⟩ := hk4
  rw [withL_ex] at hk4
  obtain ⟨ds, hr, hk4⟩ := hk4
  obtain ⟨a, vs, rfl, g1, g2⟩ := (rdb_of en4 (ho.mono (s2.trans (s3.trans s4))) hr).list en4.wd
  refine ⟨h0, a, vs, rfl, SqL.of g1, fun p hp => ?_⟩
  have x4 : ExtK C H4 U4 (upd H4 p (.lst (pickV vs l u t))) U4 := Ext.priv en4.wd hp
  refine q _ δ4 hk4 _ _ U4 (s0.trans (s1.trans (s2.trans (s3.trans s4)))) (en4.ext x4) (rs_new en4 x4 ⟨p, rfl, hp, en4.wd.noneU hp, _, upd_same, ?_⟩)
  unfold pickV pickD
  rw [g2.len]
  exact g2.pick _
theorem rev_range (n : Nat) : ((List.range n).map fun (k : Nat) => ((n : Int) - 1 + (-1) * (k : Int)).toNat) = (List.range n).reverse := by
  apply List.ext_getElem
  · simp
  · intro i h1 h2
    simp at h1
    simp
    omega
theorem pickD_rev (xs : List PyData) : pickD xs none none (some (-1)) = xs.reverse := by
  have e : sliceRange ((xs.length : Int) - 1) (-1) (-1) = (List.range xs.length).reverse := by
    rw [← rev_range]
    unfold sliceRange
    have : ((if ((xs.length : Int) - 1) > -1 then ((xs.length : Int) - 1 - (-1) - (-1) - 1) / (-(-1)) else 0) : Int).toNat = xs.length := by
      split
      · have : -(-1 : Int) = 1 := rfl
        rw [this, Int.ediv_one]; omega
      · omega
    simp only [show ¬ ((-1 : Int) > 0) by decide, if_false]
    rw [this]
  show (sliceRange ((xs.length : Int) - 1) (-1) (-1)).filterMap (xs[·]?) = _
  rw [e, List.filterMap_reverse, range_get]
end
end DX

namespace DX
open PySem PySem.Spec L2 KX
open PyProof.Rows hiding St
/-! what == asks, and what it answers -/
structure Lay (d : PyData) (n : Nat) : Prop where
  c : d.canLay0 = true
  dp : d.depth ≤ n
theorem Lay.eqOk {d : PyData} {n : Nat} (h : Lay d n) (hn : n ≤ 64) : eqOk d := ⟨PyData.hasDict_of_canLay d h.c, by
  show (d.canLay0 && decide (d.depth ≤ 64)) = true
  rw [h.c, decide_eq_true (Nat.le_trans h.dp hn)]; rfl⟩
theorem Lay.int (i : Int) : Lay (.int i) 0 := ⟨rfl, Nat.le_refl _⟩
theorem Lay.bool (b : Bool) : Lay (.bool b) 0 := ⟨rfl, Nat.le_refl _⟩
theorem Lay.none : Lay .none 0 := ⟨rfl, Nat.le_refl _⟩
theorem Lay.str {s : Str} (h : PyData.strOk s = true) : Lay (.str s) 0 := ⟨by simp [PyData.canLay0, h], by simp [PyData.depth]⟩
theorem Lay.mono {d : PyData} {n m : Nat} (h : Lay d n) (hn : n ≤ m) : Lay d m := ⟨h.c, Nat.le_trans h.dp hn⟩
theorem lay_all {n : Nat} : ∀ {ds : List PyData}, (∀ d ∈ ds, Lay d n) → PyData.canLayAll0 ds = true ∧ PyData.depthAll ds ≤ n
  | [], _ => ⟨by simp [PyData.canLayAll0], by simp [PyData.depthAll]⟩
  | d :: ds, h => by
    obtain ⟨h1, h2⟩ := lay_all fun x hx => h x (List.mem_cons_of_mem _ hx)
    have h3 := h d List.mem_cons_self
    refine ⟨by simp [PyData.canLayAll0, h1, h3.c], ?_⟩
    have := h3.dp
    simp only [PyData.depthAll]; omega
theorem Lay.tup {n : Nat} {ds : List PyData} (h : ∀ d ∈ ds, Lay d n) : Lay (.tuple ds) (n + 1) := by
  obtain ⟨h1, h2⟩ := lay_all h
  exact ⟨by simp only [PyData.canLay0]; exact h1, by simp only [PyData.depth]; omega⟩
theorem Lay.lst {n : Nat} {ds : List PyData} (h : ∀ d ∈ ds, Lay d n) : Lay (.list ds) (n + 1) := by
  obtain ⟨h1, h2⟩ := lay_all h
  exact ⟨by simp only [PyData.canLay0]; exact h1, by simp only [PyData.depth]; omega⟩
theorem Lay.tupM {α : Type} {n : Nat} {enc : α → PyData} {xs : List α} (h : ∀ x ∈ xs, Lay (enc x) n) : Lay (.tuple (xs.map enc)) (n + 1) := Lay.tup fun d hd => by
  obtain ⟨x, hx, rfl⟩ := List.mem_map.mp hd; exact h x hx
theorem Lay.lstM {α : Type} {n : Nat} {enc : α → PyData} {xs : List α} (h : ∀ x ∈ xs, Lay (enc x) n) : Lay (.list (xs.map enc)) (n + 1) := Lay.lst fun d hd => by
  obtain ⟨x, hx, rfl⟩ := List.mem_map.mp hd; exact h x hx
theorem lay_ints (ns : List Int) : Lay (tupI ns) 1 := Lay.tupM fun i _ => .int i
theorem lay_intsL (ns : List Int) : Lay (.list (ns.map PyData.int)) 1 := Lay.lstM fun i _ => .int i
@[simp] theorem eqOk_tupI (ns : List Int) : eqOk (tupI ns) := (lay_ints ns).eqOk (by decide)
@[simp] theorem eqOk_tupM (ns : List Int) : eqOk (.tuple (ns.map PyData.int)) := (lay_ints ns).eqOk (by decide)
@[simp] theorem eqOk_lstM (ns : List Int) : eqOk (.list (ns.map PyData.int)) := (lay_intsL ns).eqOk (by decide)
@[simp] theorem eqOk_tup0 : eqOk (.tuple []) := (Lay.tup (n := 0) (ds := []) fun _ h => nomatch h).eqOk (by decide)
@[simp] theorem eqOk_lst0 : eqOk (.list []) := (Lay.lst (n := 0) (ds := []) fun _ h => nomatch h).eqOk (by decide)
/-- data that are equal just where what they stand for is -/
def EncEq {α : Type} [DecidableEq α] (enc : α → PyData) : Prop := ∀ x y, PyData.eqv (enc x) (enc y) = decide (x = y)
section
variable {α : Type} [DecidableEq α] {enc : α → PyData}
theorem EncEq.all (h : EncEq enc) : ∀ xs ys : List α, PyData.eqvAll (xs.map enc) (ys.map enc) = decide (xs = ys)
  | [], [] => by simp [PyData.eqvAll]
  | [], y :: ys => by simp [PyData.eqvAll]
  | x :: xs, [] => by simp [PyData.eqvAll]
  | x :: xs, y :: ys => by
    simp only [List.map_cons, PyData.eqvAll, h x y, h.all xs ys]
    by_cases e : x = y <;> by_cases f : xs = ys <;> simp [e, f]
theorem EncEq.tup (h : EncEq enc) : EncEq fun xs : List α => .tuple (xs.map enc) := fun xs ys => by
  show PyData.eqv (.tuple _) (.tuple _) = _
  simp only [PyData.eqv]; exact h.all xs ys
theorem EncEq.lst (h : EncEq enc) : EncEq fun xs : List α => .list (xs.map enc) := fun xs ys => by
  show PyData.eqv (.list _) (.list _) = _
  simp only [PyData.eqv]; exact h.all xs ys
theorem EncEq.inD (h : EncEq enc) (x : α) : ∀ xs : List α, DX.inD (enc x) (xs.map enc) = decide (x ∈ xs)
  | [] => rfl
  | y :: ys => by
    have ih := h.inD x ys
    unfold DX.inD at ih ⊢
    rw [List.map_cons, List.any_cons, ih, h y x]
    by_cases e : y = x
    · subst e; simp
    · have e2 : ¬ x = y := fun q => e q.symm
      simp [e, e2]
end
theorem enc_int : EncEq PyData.int := fun x y => by simp only [PyData.eqv]; exact Bool.beq_eq_decide_eq x y
theorem enc_tupI : EncEq tupI := enc_int.tup
def pr2 (p : Int × Int) : PyData := .tuple [.int p.1, .int p.2]
theorem enc_pr2 : EncEq pr2 := fun ⟨a, b⟩ ⟨c, d⟩ => by
  simp only [pr2, PyData.eqv, PyData.eqvAll]
  by_cases h1 : a = c <;> by_cases h2 : b = d <;> simp [h1, h2]
theorem lay_pr2 (p : Int × Int) : Lay (pr2 p) 1 := Lay.tup (n := 0) fun d hd => by
  simp only [List.mem_cons, List.not_mem_nil, or_false] at hd
  rcases hd with rfl | rfl <;> exact .int _
@[simp] theorem eqv_tupI (a b : List Int) : PyData.eqv (.tuple (a.map PyData.int)) (.tuple (b.map PyData.int)) = decide (a = b) := enc_tupI a b
@[simp] theorem eqv_tupI' (a b : List Int) : PyData.eqv (tupI a) (tupI b) = decide (a = b) := enc_tupI a b
@[simp] theorem eqv_lstI (a b : List Int) : PyData.eqv (.list (a.map PyData.int)) (.list (b.map PyData.int)) = decide (a = b) := enc_int.lst a b
/-! pairs sorted -/
def lexB (p q : Int × Int) : Bool := decide (p.1 < q.1 ∨ (p.1 = q.1 ∧ p.2 ≤ q.2))
def srtP (ps : List (Int × Int)) : List (Int × Int) := ps.mergeSort lexB
theorem srtD_pr2 (ps : List (Int × Int)) : srtD (ps.map pr2) = (srtP ps).map pr2 := by
  unfold srtD srtP
  rw [List.map_mergeSort]
  intro a _ b _
  have := congrFun (congrFun (PySem.W.dataLe_ii (fun b : Int × Int => b.1) (fun b => b.2)) a) b
  exact this.symm
theorem dep_pr2 (p : Int × Int) : (pr2 p).depth = 1 := by simp [pr2, PyData.depth, PyData.depthAll]
theorem nd_pr2 : ∀ ps : List (Int × Int), PyData.hasDictAll (ps.map pr2) = false
  | [] => by simp [PyData.hasDictAll]
  | p :: ps => by simp [PyData.hasDictAll, pr2, PyData.hasDict, nd_pr2 ps]
theorem srtOk_pr2 {ps : List (Int × Int)} (h : ps.length ≤ 10000) : SrtOk (ps.map pr2) :=
  ⟨PySem.W.AllAlike.of fun b b' => by simp [pr2, PySem.W.alike, PySem.W.alikeAll], PySem.W.Sortable.tuples fun b => ⟨_, _, rfl⟩, by simpa using h, fun d hd => by
    obtain ⟨p, _, rfl⟩ := List.mem_map.mp hd
    rw [dep_pr2]; decide, nd_pr2 ps⟩
theorem fSorted_pr2 {ps : List (Int × Int)} {k : Sl → Prop} (h : ps.length ≤ 10000) (hk : k (.own ((srtP ps).map pr2))) : fSorted (.list (ps.map pr2)) k :=
  fSorted_of (srtOk_pr2 h) (by rw [srtD_pr2]; exact hk)
theorem lexB_trans (a b c : Int × Int) (h1 : lexB a b = true) (h2 : lexB b c = true) : lexB a c = true := by
  unfold lexB at *; simp only [decide_eq_true_eq] at *; omega
theorem lexB_total (a b : Int × Int) : (lexB a b || lexB b a) = true := by
  unfold lexB; simp only [Bool.or_eq_true, decide_eq_true_eq]; omega
theorem lexB_anti {a b : Int × Int} (h1 : lexB a b = true) (h2 : lexB b a = true) : a = b := by
  unfold lexB at *; simp only [decide_eq_true_eq] at *
  exact Prod.ext (by omega) (by omega)
theorem srtP_perm (ps : List (Int × Int)) : (srtP ps).Perm ps := List.mergeSort_perm ps _
theorem srtP_len (ps : List (Int × Int)) : (srtP ps).length = ps.length := (srtP_perm ps).length_eq
theorem srtP_ord (ps : List (Int × Int)) : (srtP ps).Pairwise fun a b => lexB a b = true := List.pairwise_mergeSort lexB_trans lexB_total ps
theorem srtP_uniq {ps qs : List (Int × Int)} (hp : qs.Perm ps) (ho : qs.Pairwise fun a b => lexB a b = true) : qs = srtP ps :=
  (hp.trans (srtP_perm ps).symm).eq_of_pairwise (fun _ _ _ _ h1 h2 => lexB_anti h1 h2) ho (srtP_ord ps)
/-! loops over 1, .., n -/
theorem rng1 (n : Nat) : rngD 1 n = (List.range' 1 n).map fun i : Nat => .int (i : Int) := by
  rw [rng_eq, List.range'_eq_map_range, List.map_map]
  apply List.map_congr_left
  intro i _
  simp
theorem forGo_rng1 {g : DG} {b : DS} {D : DEnds} (I : Nat → DEnv → Prop) (n : Nat) (hs : ∀ i δ (N : DEnv → Prop), i < n → (∀ δ', I (i + 1) δ' → N δ') → I i δ → g (.pub (.int ((i + 1 : Nat) : Int))) δ fun δ1 => b { D with nx := N, ct := N, bk := D.nx } δ1) (he : ∀ δ, I n δ → D.nx δ) : ∀ δ, I 0 δ → forGo g b D (rngD 1 n) δ := by
  intro δ h0
  rw [rng1]
  refine forGo_inv (fun i : Nat => .int (i : Int)) (fun ps δ => ∃ i, i ≤ n ∧ ps = List.range' (i + 1) (n - i) ∧ I i δ) ?_ ?_ _ _ ⟨0, Nat.zero_le _, by simp, h0⟩
  · rintro p ps δ N hN ⟨i, hi, hp, h⟩
    have hlt : i < n := by
      rcases Nat.lt_or_ge i n with z | z
      · exact z
      · rw [show n - i = 0 by omega] at hp; cases hp
    rw [show n - i = (n - (i + 1)) + 1 by omega, List.range'_succ] at hp
    cases hp
    exact hs i δ N hlt (fun δ' h' => hN δ' ⟨i + 1, hlt, rfl, h'⟩) h
  · rintro δ ⟨i, hi, hp, h⟩
    have : i = n := by
      rcases Nat.lt_or_ge i n with z | z
      · rw [show n - i = (n - (i + 1)) + 1 by omega, List.range'_succ] at hp; cases hp
      · omega
    subst this
    exact he δ h
/-- a loop over 0, .., n - 1 -/
theorem forGo_rng0 {g : DG} {b : DS} {D : DEnds} (I : Nat → DEnv → Prop) (n : Nat) (hs : ∀ i δ (N : DEnv → Prop), i < n → (∀ δ', I (i + 1) δ' → N δ') → I i δ → g (.pub (.int (i : Int))) δ fun δ1 => b { D with nx := N, ct := N, bk := D.nx } δ1) (he : ∀ δ, I n δ → D.nx δ) : ∀ δ, I 0 δ → forGo g b D (rngD 0 n) δ := by
  intro δ h0
  have e : rngD 0 n = (List.range' 0 n).map fun i : Nat => .int (i : Int) := by
    rw [rng_eq, List.range_eq_range']
    apply List.map_congr_left
    intro i _
    simp
  rw [e]
  refine forGo_inv (fun i : Nat => .int (i : Int)) (fun ps δ => ∃ i, i ≤ n ∧ ps = List.range' i (n - i) ∧ I i δ) ?_ ?_ _ _ ⟨0, Nat.zero_le _, by simp, h0⟩
  · rintro p ps δ N hN ⟨i, hi, hp, h⟩
    have hlt : i < n := by
      rcases Nat.lt_or_ge i n with z | z
      · exact z
      · rw [show n - i = 0 by omega] at hp; cases hp
    rw [show n - i = (n - (i + 1)) + 1 by omega, List.range'_succ] at hp
    injection hp with e1 e2
    rw [e1]
    exact hs i δ N hlt (fun δ' h' => hN δ' ⟨i + 1, hlt, e2, h'⟩) h
  · rintro δ ⟨i, hi, hp, h⟩
    have : i = n := by
      rcases Nat.lt_or_ge i n with z | z
      · rw [show n - i = (n - (i + 1)) + 1 by omega, List.range'_succ] at hp; cases hp
      · omega
    subst this
    exact he δ h
/-- a loop over the items of a list, by place -/
theorem forGo_at {α : Type} {g : DG} {b : DS} {D : DEnds} (e : α → PyData) (xs : List α) (I : Nat → DEnv → Prop) (hs : ∀ i δ (N : DEnv → Prop) (h : i < xs.length), (∀ δ', I (i + 1) δ' → N δ') → I i δ → g (.pub (e xs[i])) δ fun δ1 => b { D with nx := N, ct := N, bk := D.nx } δ1) (he : ∀ δ, I xs.length δ → D.nx δ) : ∀ δ, I 0 δ → forGo g b D (xs.map e) δ := by
  intro δ h0
  refine forGo_inv e (fun ys δ => ∃ i, i ≤ xs.length ∧ ys = xs.drop i ∧ I i δ) ?_ ?_ _ _ ⟨0, Nat.zero_le _, by simp, h0⟩
  · rintro p ps δ N hN ⟨i, hi, hp, h⟩
    have hlt : i < xs.length := by
      rcases Nat.lt_or_ge i xs.length with z | z
      · exact z
      · rw [List.drop_eq_nil_of_le z] at hp; cases hp
    rw [List.drop_eq_getElem_cons hlt] at hp
    cases hp
    exact hs i δ N hlt (fun δ' h' => hN δ' ⟨i + 1, hlt, rfl, h'⟩) h
  · rintro δ ⟨i, hi, hp, h⟩
    have : i = xs.length := by
      rcases Nat.lt_or_ge i xs.length with z | z
      · rw [List.drop_eq_getElem_cons z] at hp; cases hp
      · omega
    subst this
    exact he δ h
/-- pairs of a place and an item -/
theorem pairs_eq {α : Type} (e : α → PyData) : ∀ (xs : List α) (n : Nat), pairs n (xs.map e) = (xs.zipIdx n).map fun p => .tuple [.int (p.2 : Int), e p.1]
  | [], n => rfl
  | x :: xs, n => by simp only [List.map_cons, pairs, List.zipIdx_cons, pairs_eq e xs (n + 1)]
theorem forGo_en {α : Type} {g : DG} {b : DS} {D : DEnds} (e : α → PyData) (xs : List α) (I : Nat → DEnv → Prop) (hs : ∀ i δ (N : DEnv → Prop) (h : i < xs.length), (∀ δ', I (i + 1) δ' → N δ') → I i δ → g (.pub (.tuple [.int (i : Int), e xs[i]])) δ fun δ1 => b { D with nx := N, ct := N, bk := D.nx } δ1) (he : ∀ δ, I xs.length δ → D.nx δ) : ∀ δ, I 0 δ → forGo g b D (pairs 0 (xs.map e)) δ := by
  intro δ h0
  rw [pairs_eq]
  refine forGo_at (fun p : α × Nat => .tuple [.int (p.2 : Int), e p.1]) (xs.zipIdx 0) I (fun i δ N h hN hi => ?_) (fun δ h => he δ (by simpa using h)) δ h0
  have hl : i < xs.length := by simpa using h
  have : (xs.zipIdx 0)[i] = (xs[i], i) := by simp
  rw [this]
  exact hs i δ N hl hN hi
end DX

namespace MX
/-! places that differ after a round -/
theorem rnd_diff {row : List Int} (hn : row.Nodup) (s k : Nat) : ((List.range row.length).filter fun i => !decide (row.getD i 0 = (rnd s k row).getD i 0)).length = 2 * (excL row s k).length := by
  have hb : ∀ p ∈ excL row s k, p + 1 < row.length := fun p hp => by
    have := (excL_mem.mp hp).1
    unfold cmpd at this
    simp at this; omega
  have inj : ∀ i j, i < row.length → j < row.length → row.getD i 0 = row.getD j 0 → i = j := fun i j hi hj h => by
    rw [List.getD_eq_getElem?_getD, List.getD_eq_getElem?_getD, List.getElem?_eq_getElem hi, List.getElem?_eq_getElem hj] at h
    exact (List.getElem_inj hn).mp h
  have key : ∀ i, i < row.length → ((!decide (row.getD i 0 = (rnd s k row).getD i 0)) = true ↔ i ∈ excL row s k ∨ (0 < i ∧ i - 1 ∈ excL row s k)) := fun i hi => by
    rw [← swaps_exc, swaps_getD (excL_gap _ _ _) hb]
    by_cases m1 : i ∈ excL row s k
    · rw [if_pos m1]
      have := hb i m1
      have ne : row.getD i 0 ≠ row.getD (i + 1) 0 := fun z => by have := inj i (i + 1) hi this z; omega
      simp only [m1, true_or, iff_true, decide_eq_false ne, Bool.not_false]
    · rw [if_neg m1]
      by_cases m2 : 0 < i ∧ i - 1 ∈ excL row s k
      · rw [if_pos m2]
        have ne : row.getD i 0 ≠ row.getD (i - 1) 0 := fun z => by have := inj i (i - 1) hi (by omega) z; omega
        simp only [m2, and_self, or_true, iff_true, decide_eq_false ne, Bool.not_false]
      · rw [if_neg m2]
        simp only [m1, m2, or_self, iff_false, decide_true, Bool.not_true]
        exact Bool.false_ne_true
  have p1 : ((List.range row.length).filter fun i => !decide (row.getD i 0 = (rnd s k row).getD i 0)).Perm (excL row s k ++ (excL row s k).map (· + 1)) := by
    have nd : (excL row s k).Nodup := (excL_gap row s k).imp fun {a b} h => by omega
    refine (List.perm_ext_iff_of_nodup (List.Pairwise.filter _ List.nodup_range) ?_).mpr fun i => ?_
    · rw [List.nodup_append]
      refine ⟨nd, List.pairwise_map.mpr (nd.imp fun {a b} h => by omega), fun a ha b hb' => ?_⟩
      obtain ⟨c, hc, rfl⟩ := List.mem_map.mp hb'
      intro z
      subst z
      have h1 := (excL_mem.mp ha).1
      have h2 := (excL_mem.mp hc).1
      unfold cmpd at h1 h2
      simp at h1 h2; omega
    · rw [List.mem_filter, List.mem_range, List.mem_append, List.mem_map]
      constructor
      · rintro ⟨hi, h⟩
        rcases (key i hi).mp h with z | ⟨z1, z2⟩
        · exact .inl z
        · exact .inr ⟨i - 1, z2, by omega⟩
      · rintro (z | ⟨c, hc, rfl⟩)
        · have := hb i z
          exact ⟨by omega, (key i (by omega)).mpr (.inl z)⟩
        · have := hb c hc
          exact ⟨by omega, (key (c + 1) (by omega)).mpr (.inr ⟨by omega, by simpa using hc⟩)⟩
  rw [p1.length_eq, List.length_append, List.length_map]; omega
theorem nex_succ (s : Nat) (row : List Int) (r : Nat) : nex s row (r + 1) = nex s row r + (excL (run s r row) s (r + 1)).length := by
  show nex s row r + _ = _
  rw [excL_exN, run_len]
theorem run_nodup {s : Nat} {row : List Int} (hn : row.Nodup) (r : Nat) : (run s r row).Nodup := (run_perm s row r).nodup_iff.mpr hn
def hist (s r : Nat) (row : List Int) : List (List Int) := (List.range (r + 1)).map fun i => run s i row
theorem hist_len (s r : Nat) (row : List Int) : (hist s r row).length = r + 1 := by simp [hist]
theorem hist_succ (s r : Nat) (row : List Int) : hist s (r + 1) row = hist s r row ++ [run s (r + 1) row] := by
  unfold hist; rw [List.range_succ, List.map_append]; rfl
theorem hist_get {s r i : Nat} {row : List Int} (h : i ≤ r) : (hist s r row)[i]? = some (run s i row) := by
  unfold hist; rw [List.getElem?_map, List.getElem?_range (by omega)]; rfl
theorem nex_le (s : Nat) (row : List Int) (r : Nat) : nex s row r ≤ (invP row).length := by have := nex_inv s row r; omega
/-- pairs in a row, each exchanged if it is descending by then -/
def cswaps (row : List Int) : List Nat → List Int
  | [] => row
  | p :: ps => cswaps (if row.getD (p + 1) 0 < row.getD p 0 then swapAt row p else row) ps
theorem cswaps_eq : ∀ {ps : List Nat} {row : List Int}, ps.Pairwise (fun a b => a + 1 < b) → (∀ p ∈ ps, p + 1 < row.length) → cswaps row ps = swaps row (ps.filter fun p => decide (row.getD (p + 1) 0 < row.getD p 0))
  | [], row, _, _ => rfl
  | p :: ps, row, hw, h => by
    have hp := h p List.mem_cons_self
    rw [List.pairwise_cons] at hw
    show cswaps (if row.getD (p + 1) 0 < row.getD p 0 then swapAt row p else row) ps = _
    by_cases c : row.getD (p + 1) 0 < row.getD p 0
    · rw [if_pos c, List.filter_cons_of_pos (by rw [decide_eq_true_eq]; exact c)]
      rw [cswaps_eq hw.2 fun q hq => by rw [swapAt_len hp]; exact h q (List.mem_cons_of_mem _ hq)]
      show _ = swaps (swapAt row p) _
      congr 1
      apply List.filter_congr
      intro q hq
      have := hw.1 q hq
      rw [swapAt_getD hp, swapAt_getD hp, if_neg (by omega), if_neg (by omega), if_neg (by omega), if_neg (by omega)]
    · rw [if_neg c, List.filter_cons_of_neg (by rw [decide_eq_true_eq]; exact c)]
      exact cswaps_eq hw.2 fun q hq => h q (List.mem_cons_of_mem _ hq)
theorem cswaps_rnd (row : List Int) (s k : Nat) : cswaps row (cmpL row.length s k) = rnd s k row := by
  rw [cswaps_eq (cmpL_gap _ _ _) fun p hp => (cmpL_mem.mp hp).1]
  exact swaps_exc row s k
end MX

namespace LW
open PySem PySem.Spec L2 KX DX MX
open PyProof.Rows hiding St
def Shistory : DF := fun as k => ∃ (row : List Int) (s r : Nat), as = [.pub (tupI row), .pub (.int s), .pub (.int r)] ∧ row.length ≤ 30 ∧ s ≤ 1 ∧ r ≤ 100 ∧ k (.pub (.tuple ((hist s r row).map tupI)))
def Safter_rounds : DF := fun as k => ∃ (row : List Int) (s r : Nat), as = [.pub (tupI row), .pub (.int s), .pub (.int r)] ∧ row.length ≤ 30 ∧ s ≤ 1 ∧ r ≤ 100 ∧ k (.pub (tupI (run s r row)))
def Scount_exchanges : DF := fun as k => ∃ (row : List Int) (s r : Nat), as = [.pub (tupI row), .pub (.int s), .pub (.int r)] ∧ row.length ≤ 30 ∧ s ≤ 1 ∧ r ≤ 100 ∧ k (.pub (.int (nex s row r)))
abbrev whistory : DS := (sSeq (sAsg (xLst (aC (xP (xV 0)) aN)) (gN 3))
  (sSeq (sFor (iR2 (aC (xC (.int 1)) (aC (x2 oAdd (xV 2) (xC (.int 1))) aN))) (gN 4)
  (sExp (lAppend 3 (xCall Safter_round (aC (xP (x2 oIx (xV 3) (x1 oNeg (xC (.int 1))))) (aC (xP (xV 1)) (aC (xP (xV 4)) aN)))))))
  (sRet (x1 fTuple (xV 3)))))
abbrev wafter_rounds : DS := (sRet (x2 oIx (xCall Shistory (aC (xP (xV 0)) (aC (xP (xV 1)) (aC (xP (xV 2)) aN)))) (x1 oNeg (xC (.int 1)))))
abbrev wcount_exchanges : DS := (sSeq (sAsg (xC (.int 0)) (gN 3))
  (sSeq (sAsg (xCall Shistory (aC (xP (xV 0)) (aC (xP (xV 1)) (aC (xP (xV 2)) aN)))) (gN 4))
  (sSeq (sFor (iR2 (aC (xC (.int 1)) (aC (x2 oAdd (xV 2) (xC (.int 1))) aN))) (gN 5)
  (sAug oAddI 3 (x1 fLen (xCall Sexchanged_places (aC (xP (x2 oIx (xV 4) (x2 oSub (xV 5) (xC (.int 1))))) (aC (xP (xV 1)) (aC (xP (xV 5)) aN)))))))
  (sRet (xV 3)))))
theorem last_hist {s r : Nat} {row : List Int} : atI ((hist s r row).map tupI) (-1) = some (tupI (run s r row)) := by
  apply atI_neg1
  unfold hist
  rw [List.range_succ, List.map_append, List.map_append]
  simp
theorem at_hist {s r i : Nat} {row : List Int} (h : i ≤ r) : atI ((hist s r row).map tupI) (i : Int) = some (tupI (run s i row)) := atI_nat (by rw [List.getElem?_map, hist_get h]; rfl)
theorem len_history : ∀ as k, Shistory as k → as.length = 3 := by rintro _ k ⟨n, s, m, rfl, _⟩; rfl
theorem dd_history : ∀ as k, Shistory as k → whistory { nx := fun _ => k (.pub .none), rt := k } (as ++ List.replicate (5 - as.length) .emp) := by
  rintro _ k ⟨row, s, r, rfl, hn, hs, hr, q⟩
  simp
  refine ⟨i62_of (by omega) (by omega), i62_of (by omega) (by omega), ?_⟩
  refine forGo_rng1 (fun i δ => ∃ x, δ = [.pub (tupI row), .pub (.int s), .pub (.int r), .own ((hist s i row).map tupI), x]) r ?_ ?_ _ ⟨_, rfl⟩
  · rintro i δ N hi hN ⟨x, rfl⟩
    simp [last_hist]
    refine ⟨run s i row, s, i + 1, rfl, by rw [run_len]; omega, hs, by omega, ?_⟩
    simp [hist_len]
    refine ⟨by omega, hN _ ⟨.pub (.int ((i : Int) + 1)), ?_⟩⟩
    rw [hist_succ]; simp; rfl
  · rintro δ ⟨x, rfl⟩
    simpa using q
theorem len_after_rounds : ∀ as k, Safter_rounds as k → as.length = 3 := by rintro _ k ⟨n, s, m, rfl, _⟩; rfl
theorem dd_after_rounds : ∀ as k, Safter_rounds as k → wafter_rounds { nx := fun _ => k (.pub .none), rt := k } (as ++ List.replicate (3 - as.length) .emp) := by
  rintro _ k ⟨row, s, r, rfl, hn, hs, hr, q⟩
  simp
  refine ⟨row, s, r, rfl, hn, hs, hr, ?_⟩
  simp [last_hist]
  simpa using q
theorem len_count_exchanges : ∀ as k, Scount_exchanges as k → as.length = 3 := by rintro _ k ⟨n, s, m, rfl, _⟩; rfl
theorem dd_count_exchanges : ∀ as k, Scount_exchanges as k → wcount_exchanges { nx := fun _ => k (.pub .none), rt := k } (as ++ List.replicate (6 - as.length) .emp) := by
  rintro _ k ⟨row, s, r, rfl, hn, hs, hr, q⟩
  simp
  refine ⟨row, s, r, rfl, hn, hs, hr, ?_⟩
  simp
  refine ⟨i62_of (by omega) (by omega), i62_of (by omega) (by omega), ?_⟩
  refine forGo_rng1 (fun i δ => ∃ x, δ = [.pub (tupI row), .pub (.int s), .pub (.int r), .pub (.int (nex s row i)), .pub (.tuple ((hist s r row).map tupI)), x]) r ?_ ?_ _ ⟨_, rfl⟩
  · rintro i δ N hi hN ⟨x, rfl⟩
    have e2 : (((i + 1 : Nat)) : Int) - 1 = (i : Int) := by omega
    simp [e2, at_hist (Nat.le_of_lt hi)]
    refine ⟨run s i row, s, i + 1, rfl, by rw [run_len]; omega, hs, by omega, ?_⟩
    simp
    refine hN _ ⟨.pub (.int ((i : Int) + 1)), ?_⟩
    rw [nex_succ]; simp [toI]
  · rintro δ ⟨x, rfl⟩
    simpa using q
end LW

namespace LW
open PySem PySem.Spec L2 KX DX MX
open PyProof.Rows hiding St
def Sranks : DF := fun as k => ∃ (row : List Int), as = [.pub (tupI row)] ∧ row.Nodup ∧ row.length ≤ 30 ∧ k (.pub (tupI (row.map fun z => (sm row z : Int))))
def Smirror : DF := fun as k => ∃ (row : List Int), as = [.pub (tupI row)] ∧ row.Nodup ∧ row.length ≤ 30 ∧ k (.pub (tupI (mir row)))
def Sinversions : DF := fun as k => ∃ (row : List Int), as = [.pub (tupI row)] ∧ row.length ≤ 30 ∧ k (.pub (.tuple ((srtP (invP row)).map pr2)))
def Sthresholds : DF := fun as k => ∃ (row : List Int), as = [.pub (tupI row)] ∧ row.length ≤ 30 ∧ k (.pub (tupI (thr row)))
abbrev wranks : DS := (sSeq (sAsg (x1 fSorted (xV 0)) (gN 1))
  (sRet (x1 fTuple (xPs [1] (xLc [2] (iX (xV 0)) (gN 2) tYes' (xIdx (xV 1) (xV 2)))))))
abbrev wmirror : DS := (sSeq (sAsg (x1 fSortedR (xV 0)) (gN 1))
  (sSeq (sAsg (xCall Sranks (aC (xP (xV 0)) aN)) (gN 2))
  (sRet (x1 fTuple (xPs [1] (xLc [3] (iRv (xV 2)) (gN 3) tYes' (x2 oIx (xV 1) (xV 3))))))))
abbrev winversions : DS := (sSeq (sAsg (xLst aN) (gN 1))
  (sSeq (sFor (iE (xV 0)) (gT [(gN 2), (gN 3)])
  (sFor (iX (xSl (xV 0) (pS (x2 oAdd (xV 2) (xC (.int 1)))) pN)) (gN 4)
  (sIf (tV (x2 oLt (xV 4) (xV 3)))
  (sExp (lAppend 1 (xTup (aC (xP (xV 4)) (aC (xP (xV 3)) aN)))))
  sNx)))
  (sRet (x1 fTuple (x1 fSorted (xV 1))))))
abbrev wthresholds : DS := (sRet (x1 fTuple (xSl (x1 fSorted (xV 0)) pN (pS (x1 oNeg (xC (.int 1)))))))
theorem srtI_asc (row : List Int) : srtI row = asc row := rfl
/-- the place of a key in the ascending row -/
theorem find_asc {row : List Int} (hn : row.Nodup) {z : Int} (hz : z ∈ row) : ((srtI row).map PyData.int).findIdx? (fun d => PyData.eqv d (.int z)) = some (sm row z) := by
  have hp := srtI_perm row
  have hlt := asc_lt hp (srtI_ord row) hn
  have h1 := asc_at _ hlt z (hp.mem_iff.mpr hz)
  rw [sm_perm hp] at h1
  obtain ⟨hl, he⟩ := List.getElem?_eq_some_iff.mp h1
  rw [List.findIdx?_eq_some_iff_getElem]
  refine ⟨by simpa using hl, by simp [he], fun j hj => ?_⟩
  simp only [List.getElem_map, eqv_int, beq_iff_eq]
  intro q
  have := List.pairwise_iff_getElem.mp hlt j (sm row z) (by omega) hl hj
  rw [q, he] at this
  omega
theorem len_ranks : ∀ as k, Sranks as k → as.length = 1 := by rintro _ k ⟨n, rfl, _⟩; rfl
theorem dd_ranks : ∀ as k, Sranks as k → wranks { nx := fun _ => k (.pub .none), rt := k } (as ++ List.replicate (3 - as.length) .emp) := by
  rintro _ k ⟨row, rfl, hn, hl, q⟩
  simp [tupI]
  refine ⟨by omega, ?_⟩
  refine lcGo_all PyData.int (fun z => [.pub (.tuple (row.map .int)), .pub (.list ((srtI row).map .int)), .pub (.int z)]) (fun z => .int (sm row z : Int)) row ?_ ?_ ?_
  · intro x _ k h; simpa using h
  · intro x hx k h
    simp [find_asc hn hx]
    exact h
  · simpa [tupI, Function.comp_def] using q
theorem len_mirror : ∀ as k, Smirror as k → as.length = 1 := by rintro _ k ⟨n, rfl, _⟩; rfl
theorem rev_desc (row : List Int) : (srtI row).reverse = desc row := desc_uniq ((List.reverse_perm _).trans (srtI_perm row)) (List.pairwise_reverse.mpr ((srtI_ord row).imp fun h => h))
theorem dd_mirror : ∀ as k, Smirror as k → wmirror { nx := fun _ => k (.pub .none), rt := k } (as ++ List.replicate (4 - as.length) .emp) := by
  rintro _ k ⟨row, rfl, hn, hl, q⟩
  simp [tupI]
  refine ⟨row, rfl, hn, hl, ?_⟩
  simp [tupI]
  refine ⟨by omega, ?_⟩
  have e : (List.map (fun z : Int => PyData.int (sm row z : Int)) row).reverse = row.reverse.map fun z => .int (sm row z : Int) := by simp
  have e0 : (PyData.int ∘ fun z => (sm row z : Int)) = fun z : Int => PyData.int (sm row z : Int) := rfl
  rw [e0, e]
  have e1 : ((srtI row).map PyData.int).reverse = (desc row).map PyData.int := by rw [← List.map_reverse, rev_desc]
  rw [e1]
  refine lcGo_all (fun z : Int => .int (sm row z : Int)) (fun z => [.pub (.tuple (row.map .int)), .pub (.list ((desc row).map .int)), .pub (.tuple (row.map fun z => .int (sm row z : Int))), .pub (.int (sm row z : Int))]) (fun z => .int (flip row z)) row.reverse ?_ ?_ ?_
  · intro x _ k h; simpa using h
  · intro x hx k h
    have hx : x ∈ row := by simpa using hx
    have : atI (desc row) (sm row x : Int) = some (flip row x) := atI_nat (flip_at hn hx)
    simp [this]
    exact h
  · simpa [tupI, mir, Function.comp_def] using q
theorem len_inversions : ∀ as k, Sinversions as k → as.length = 1 := by rintro _ k ⟨n, rfl, _⟩; rfl
theorem invP_take (row : List Int) : ∀ (acc : List (Int × Int)) (i : Nat) (h : i < row.length), acc ++ invP (row.drop i) = acc ++ ((row.drop (i + 1)).filter fun z => decide (z < row[i])).map (fun z => (z, row[i])) ++ invP (row.drop (i + 1)) := fun acc i h => by
  rw [List.drop_eq_getElem_cons h]
  show acc ++ (((row.drop (i + 1)).filter fun z => decide (z < row[i])).map (fun z => (z, row[i])) ++ invP (row.drop (i + 1))) = _
  rw [List.append_assoc]
theorem cut1 (ns : List Int) (j : Nat) : cutD (ns.map PyData.int) (some ((j : Int) + 1)) none = (ns.drop (j + 1)).map PyData.int := by
  have := cutD_from ns (j + 1)
  rwa [show (((j + 1 : Nat)) : Int) = (j : Int) + 1 by omega] at this
theorem invP_len30 {row : List Int} (h : row.length ≤ 30) : (invP row).length ≤ 900 := Nat.le_trans (invP_len row) (Nat.mul_le_mul h h)
theorem dd_inversions : ∀ as k, Sinversions as k → winversions { nx := fun _ => k (.pub .none), rt := k } (as ++ List.replicate (5 - as.length) .emp) := by
  rintro _ k ⟨row, rfl, hl, q⟩
  have hlen := invP_len30 hl
  simp [tupI]
  refine forGo_en PyData.int row (fun i δ => ∃ (acc : List (Int × Int)) (x y z : Sl), δ = [.pub (.tuple (row.map .int)), .own (acc.map pr2), x, y, z] ∧ acc ++ invP (row.drop i) = invP row) ?_ ?_ _ ⟨[], .emp, .emp, .emp, rfl, by simp⟩
  · rintro i δ N hi hN ⟨acc, x, y, z, rfl, ha⟩
    rw [invP_take row acc i hi] at ha
    simp [cut1]
    rw [← List.map_drop]
    refine forGo_inv PyData.int (fun ps δ => ∃ (ac : List (Int × Int)) (u : Sl), δ = [.pub (.tuple (row.map .int)), .own (ac.map pr2), .pub (.int (i : Int)), .pub (.int row[i]), u] ∧ ac ++ (ps.filter fun z => decide (z < row[i])).map (fun z => (z, row[i])) ++ invP (row.drop (i + 1)) = invP row) ?_ ?_ _ _ ⟨acc, z, rfl, ha⟩
    · rintro p ps δ N' hN' ⟨ac, u, rfl, he⟩
      have hac : ac.length ≤ 900 := by
        have := congrArg List.length he
        simp only [List.length_append] at this
        omega
      simp
      refine cnd_of (fun h => ?_) (fun h => ?_)
      · have h : p < row[i] := by simpa using h
        rw [List.filter_cons_of_pos (by simpa using h)] at he
        simp
        refine ⟨by omega, hN' _ ⟨ac ++ [(p, row[i])], .pub (.int p), by simp [pr2], ?_⟩⟩
        simpa using he
      · have h : ¬ p < row[i] := by simpa using h
        rw [List.filter_cons_of_neg (by simpa using h)] at he
        exact hN' _ ⟨ac, _, rfl, he⟩
    · rintro δ ⟨ac, u, rfl, he⟩
      exact hN _ ⟨ac, _, _, _, rfl, by simpa using he⟩
  · rintro δ ⟨acc, x, y, z, rfl, ha⟩
    have ha : acc = invP row := by simpa [invP] using ha
    subst ha
    simp
    refine fSorted_pr2 (by omega) ?_
    simpa using q
theorem len_thresholds : ∀ as k, Sthresholds as k → as.length = 1 := by rintro _ k ⟨n, rfl, _⟩; rfl
theorem cut_last' (ns : List Int) : cutD (ns.map PyData.int) none (some (-1)) = ns.dropLast.map PyData.int := by
  rw [cutD_ints, HT.sIx_none]
  have : HT.sIx ns.length ns.length (some (-1)) = ns.length - 1 := by
    unfold HT.sIx
    simp
    omega
  rw [this, List.drop_zero, Nat.sub_zero, List.dropLast_eq_take]
theorem dd_thresholds : ∀ as k, Sthresholds as k → wthresholds { nx := fun _ => k (.pub .none), rt := k } (as ++ List.replicate (1 - as.length) .emp) := by
  rintro _ k ⟨row, rfl, hl, q⟩
  simp [tupI, cut_last']
  rw [← List.map_dropLast]
  exact q
end LW

namespace DX
open PySem PySem.Spec L2 KX
open PyProof.Rows hiding St
/-! range(i, j, c), c > 0 -/
def rngC (lo c : Int) (n : Nat) : List PyData := (List.range n).map fun (i : Nat) => PyData.int (lo + (i : Int) * c)
def cntC (i j c : Int) : Nat := if i < j then ((j - i - 1) / c).toNat + 1 else 0
def iR3 (ws : DA) (δ : DEnv) (Q : List PyData → DEnv → Prop) : Prop := ws δ fun rs δ1 => ∃ r s t i j c, rs = [r, s, t] ∧ rd δ1 r = some (.int i) ∧ rd δ1 s = some (.int j) ∧ rd δ1 t = some (.int c) ∧ (0 < c ∧ c < 1000000 ∧ -1000000000 ≤ i ∧ i ≤ 1000000000 ∧ -1000000000 ≤ j ∧ j ≤ 1000000000) ∧ Q (rngC i c (cntC i j c)) δ1
section
variable {X : Cx} {F : Fam} {pos p : Pos} {tg : Expr}
theorem rgC_pos {i j c : Int} (h : 0 < c ∧ c < 1000000 ∧ -1000000000 ≤ i ∧ i ≤ 1000000000 ∧ -1000000000 ≤ j ∧ j ≤ 1000000000) : RgC i j c (cntC i j c) := by
  obtain ⟨h1, h2, h3, h4, h5, h6⟩ := h
  have e : Builtin.Range.rangeSize i j c = (cntC i j c : Int) := by
    unfold Builtin.Range.rangeSize cntC
    have c0 : c > 0 := h1
    by_cases hij : i < j
    · simp [hij, h1]
      have : 0 ≤ (j - i - 1) / c := Int.ediv_nonneg (by omega) (by omega)
      omega
    · simp [hij, h1]
  refine ⟨by omega, by omega, ?_, e⟩
  have hn : (cntC i j c : Int) ≤ 4000000000 := by
    unfold cntC
    split
    · have : (j - i - 1) / c ≤ j - i - 1 := Int.ediv_le_self _ (by omega)
      omega
    · omega
  have hn0 : (0 : Int) ≤ (cntC i j c : Int) := Int.natCast_nonneg _
  unfold Builtin.Range.small
  rw [e]
  generalize (cntC i j c : Int) = n at hn hn0
  simp only [Builtin.Range.rangeFitsLong, Bool.and_eq_true, Bool.or_eq_true, decide_eq_true_eq, beq_iff_eq, show c > 0 from h1, if_true]
  omega
theorem rngC_get {lo c : Int} {n i : Nat} (h : i < n) : (rngC lo c n)[i]? = some (.int (lo + (i : Int) * c)) := by simp [rngC, h]
theorem rngC_len {lo c : Int} {n : Nat} : (rngC lo c n).length = n := by simp [rngC]
theorem walk_rngC {C : Ct} {U0 : Hp} {lo c : Int} {n : Nat} : WalkD true C U0 (Itc lo c n) (rngC lo c n) := by
  refine ⟨_, _, (by rw [rngC_len]; exact walk_rangeC), fun _ _ _ _ => trivial, fun i H U x H' wd s hi y => ?_⟩
  obtain ⟨rfl, rfl⟩ := y
  exact ⟨U, _, Ext.refl wd, rngC_get (by rw [rngC_len] at hi; exact hi), .inl (.int _)⟩
theorem di_r3 {ws : DA} {a b c : Expr} (hg : Gl X "range") (hm : X.mg "range" = none) (ha : PA X [a, b, c] (lA F X.K ws)) (hs : starEach [a, b, c] X.env = (false, eval a X.env) :: starEach [b, c] X.env := by rfl) (hpl : (backTo pos (starEach [b, c] X.env)).any (·.1) = false := by rfl) : PI X tg (.Call (.Name "range" p) [a, b, c] [] pos) (lI true F X.K (iR3 ws)) := PI.imp (pi_range3 hg hm ha hs hpl) fun σ H R ⟨C, δ, U, k, e1, e2, en, w, q⟩ => by
  refine ⟨C, δ, U, _, e1, e2, en, w, fun rs δ' hk vs H' U0 s0 en0 ho => ?_⟩
  obtain ⟨r, s, t, i, j, c, rfl, hr, hs, ht, hb, hk⟩ := hk
  obtain ⟨U', s1, en', ho⟩ := hold_all en0 ho
  cases ho with
  | cons h1 h2 =>
    cases h2 with
    | cons h2 h3 =>
      cases h3 with
      | cons h3 h4 =>
        cases h4
        obtain rfl := int_of en' h1 hr
        obtain rfl := int_of en' h2 hs
        obtain rfl := int_of en' h3 ht
        exact ⟨i, j, c, _, rfl, rgC_pos hb, q _ δ' hk _ H' U' (s0.trans s1) en' fun C' _ => walk_rngC⟩
def threeI (k : Int → Int → Int → DEnv → Prop) (δ : DEnv) (l : List Sl) (_ : Tag k := ()) : Prop := match l with
  | [r, s, t] => withI (rd δ r) fun i => withI (rd δ s) fun j => withI (rd δ t) fun c => k i j c δ
  | _ => False
@[simp ↓] theorem threeI_s (k : Int → Int → Int → DEnv → Prop) (δ : DEnv) (r s t : Sl) : threeI k δ [r, s, t] = withI (rd δ r) fun i => withI (rd δ s) fun j => withI (rd δ t) fun c => k i j c δ := rfl
@[simp ↓] theorem iR3_s (ws : DA) (δ : DEnv) (Q : List PyData → DEnv → Prop) : iR3 ws δ Q = ws δ fun rs δ1 => threeI (fun i j c δ1 => (0 < c ∧ c < 1000000 ∧ -1000000000 ≤ i ∧ i ≤ 1000000000 ∧ -1000000000 ≤ j ∧ j ≤ 1000000000) ∧ Q (rngC i c (cntC i j c)) δ1) δ1 rs := by
  unfold iR3; congr; funext rs δ1
  apply propext
  constructor
  · rintro ⟨r, s, t, i, j, c, rfl, h1, h2, h3, h4⟩
    rw [threeI_s, withI_ex]
    refine ⟨i, h1, ?_⟩
    rw [withI_ex]
    refine ⟨j, h2, ?_⟩
    rw [withI_ex]
    exact ⟨c, h3, h4⟩
  · intro h
    match rs, h with
    | [r, s, t], h =>
      rw [threeI_s, withI_ex] at h
      obtain ⟨i, h1, h2⟩ := h
      rw [withI_ex] at h2
      obtain ⟨j, h2, h3⟩ := h2
      rw [withI_ex] at h3
      obtain ⟨c, h3, h4⟩ := h3
      exact ⟨r, s, t, i, j, c, rfl, h1, h2, h3, h4⟩
end
/-! comprehensions by an invariant -/
theorem lcGo_inv {α : Type} {g : DG} {tt : DT} {te : DE} {δ : DEnv} {Q : List PyData → Prop} (e : α → PyData) (I : List α → List PyData → Prop) (hs : ∀ x xs acc (N : List PyData → Prop), (∀ acc', I xs acc' → N acc') → I (x :: xs) acc → g (.pub (e x)) δ fun δ1 => tt δ1 fun b δ2 => δ2 = δ1 ∧ if b = true then te δ1 fun r δ3 => δ3 = δ1 ∧ ∃ d, pubD r = some d ∧ N (acc ++ [d]) else N acc) (he : ∀ acc, I [] acc → Q acc) : ∀ xs acc, I xs acc → lcGo g tt te δ (xs.map e) acc Q
  | [], acc, h => he acc h
  | x :: xs, acc, h => by
    rw [List.map_cons]
    unfold lcGo
    have := hs x xs acc _ (fun acc' h' => lcGo_inv e I hs he xs acc' h') h
    exact this
theorem rng0 (n : Nat) : rngD 0 n = (List.range' 0 n).map fun i : Nat => .int (i : Int) := by
  rw [rng_eq, List.range_eq_range']
  apply List.map_congr_left
  intro i _
  simp
/-- the same over 0, .., n - 1 -/
theorem lcGo_rng {g : DG} {tt : DT} {te : DE} {δ : DEnv} {Q : List PyData → Prop} (I : Nat → List PyData → Prop) (n : Nat) (hs : ∀ i acc (N : List PyData → Prop), i < n → (∀ acc', I (i + 1) acc' → N acc') → I i acc → g (.pub (.int (i : Int))) δ fun δ1 => tt δ1 fun b δ2 => δ2 = δ1 ∧ if b = true then te δ1 fun r δ3 => δ3 = δ1 ∧ ∃ d, pubD r = some d ∧ N (acc ++ [d]) else N acc) (he : ∀ acc, I n acc → Q acc) : ∀ acc, I 0 acc → lcGo g tt te δ (rngD 0 n) acc Q := by
  intro acc h0
  rw [rng0]
  refine lcGo_inv (fun i : Nat => .int (i : Int)) (fun ps acc => ∃ i, i ≤ n ∧ ps = List.range' i (n - i) ∧ I i acc) ?_ ?_ _ _ ⟨0, Nat.zero_le _, by simp, h0⟩
  · rintro p ps acc N hN ⟨i, hi, hp, h⟩
    have hlt : i < n := by
      rcases Nat.lt_or_ge i n with z | z
      · exact z
      · rw [show n - i = 0 by omega] at hp; cases hp
    rw [show n - i = (n - (i + 1)) + 1 by omega, List.range'_succ] at hp
    injection hp with e1 e2
    rw [e1]
    exact hs i acc N hlt (fun acc' h' => hN acc' ⟨i + 1, hlt, e2, h'⟩) h
  · rintro acc ⟨i, hi, hp, h⟩
    have : i = n := by
      rcases Nat.lt_or_ge i n with z | z
      · rw [show n - i = (n - (i + 1)) + 1 by omega, List.range'_succ] at hp; cases hp
      · omega
    subst this
    exact he acc h
end DX

namespace MX
/-! mirrored rows, other keys in the same order -/
theorem rndC_at {C : Nat → Bool} {row : List Int} {p : Nat} (h : p < row.length) : (rndC C row)[p]? = some (stp C (fun q => row.getD q 0) p) := by
  unfold rndC
  rw [List.getElem?_map, List.getElem?_range h]; rfl
theorem mem_getD {row : List Int} {p : Nat} (h : p < row.length) : row.getD p 0 ∈ row := by
  rw [getD_at h]; exact List.getElem_mem h
theorem map_getD {row : List Int} {f : Int → Int} {p : Nat} (h : p < row.length) : (row.map f).getD p 0 = f (row.getD p 0) := by
  rw [getD_at (by simpa using h), getD_at h, List.getElem_map]
theorem rev_getD {row : List Int} {p : Nat} (h : p < row.length) : row.reverse.getD p 0 = row.getD (row.length - 1 - p) 0 := by
  rw [getD_at (by simpa using h), getD_at (by omega), List.getElem_reverse]
/-- keys replaced by others in the same order -/
theorem rndC_mono {C : Nat → Bool} {row : List Int} (h : Fit row.length C) {f : Int → Int} (hf : ∀ a ∈ row, ∀ b ∈ row, a ≤ b → f a ≤ f b) : rndC C (row.map f) = (rndC C row).map f := by
  refine List.ext_getElem? fun p => ?_
  rcases Nat.lt_or_ge p row.length with hp | hp
  · rw [rndC_at (by simpa using hp), List.getElem?_map, rndC_at hp]
    show _ = some (f _)
    congr 1
    unfold stp
    dsimp only
    by_cases h1 : C p = true
    · rw [if_pos h1, if_pos h1]
      have hq := (h p h1).1
      rw [map_getD hp, map_getD hq]
      have e1 := hf _ (mem_getD hp) _ (mem_getD hq)
      have e2 := hf _ (mem_getD hq) _ (mem_getD hp)
      by_cases hl : row.getD p 0 ≤ row.getD (p + 1) 0
      · rw [Int.min_eq_left hl, Int.min_eq_left (e1 hl)]
      · have hl' : row.getD (p + 1) 0 ≤ row.getD p 0 := by omega
        rw [Int.min_eq_right hl', Int.min_eq_right (e2 hl')]
    · rw [if_neg h1, if_neg h1]
      by_cases h2 : 0 < p ∧ C (p - 1) = true
      · rw [if_pos h2, if_pos h2]
        have hq : p - 1 < row.length := by omega
        rw [map_getD hp, map_getD hq]
        have e1 := hf _ (mem_getD hp) _ (mem_getD hq)
        have e2 := hf _ (mem_getD hq) _ (mem_getD hp)
        by_cases hl : row.getD (p - 1) 0 ≤ row.getD p 0
        · rw [Int.max_eq_right hl, Int.max_eq_right (e2 hl)]
        · have hl' : row.getD p 0 ≤ row.getD (p - 1) 0 := by omega
          rw [Int.max_eq_left hl', Int.max_eq_left (e1 hl')]
      · rw [if_neg h2, if_neg h2, map_getD hp]
  · rw [List.getElem?_eq_none (by rw [rndC_len]; simpa using hp), List.getElem?_eq_none (by rw [List.length_map, rndC_len]; exact hp)]
theorem run_mono {s : Nat} {row : List Int} {f : Int → Int} (hf : ∀ a ∈ row, ∀ b ∈ row, a ≤ b → f a ≤ f b) : ∀ r, run s r (row.map f) = (run s r row).map f
  | 0 => rfl
  | r + 1 => by
    have ih := run_mono (s := s) hf r
    show rndC (cmpd (run s r (row.map f)).length s (r + 1)) (run s r (row.map f)) = (rndC (cmpd (run s r row).length s (r + 1)) (run s r row)).map f
    rw [ih, List.length_map]
    exact rndC_mono (fit_cmpd _ _ _) fun a ha b hb => hf a ((run_perm s row r).mem_iff.mp ha) b ((run_perm s row r).mem_iff.mp hb)
/-- reversed, with keys replaced in the opposite order -/
theorem rndC_anti {C D : Nat → Bool} {row : List Int} (h : Fit row.length C) (hd : ∀ p, p + 1 < row.length → D p = C (row.length - 2 - p)) (hd2 : ∀ p, D p = true → p + 1 < row.length) {f : Int → Int} (hf : ∀ a ∈ row, ∀ b ∈ row, a ≤ b → f b ≤ f a) : rndC D (row.reverse.map f) = (rndC C row).reverse.map f := by
  refine List.ext_getElem? fun p => ?_
  rcases Nat.lt_or_ge p row.length with hp | hp
  · have hlen : (rndC C row).length = row.length := rndC_len _ _
    rw [rndC_at (by simpa using hp), List.getElem?_map, List.getElem?_reverse (by rw [hlen]; exact hp), hlen, rndC_at (by omega)]
    show _ = some (f _)
    congr 1
    have g : ∀ q, q < row.length → (row.reverse.map f).getD q 0 = f (row.getD (row.length - 1 - q) 0) := fun q hq => by
      rw [map_getD (by simpa using hq), rev_getD hq]
    unfold stp
    dsimp only
    by_cases h1 : D p = true
    · have hp1 := hd2 p h1
      have h1' : C (row.length - 2 - p) = true := by rw [← hd p hp1]; exact h1
      have h2 := (h _ h1').2
      rw [show row.length - 2 - p + 1 = row.length - 1 - p by omega] at h2
      rw [if_pos h1, h2, if_neg (by simp), if_pos ⟨by omega, by rw [show row.length - 1 - p - 1 = row.length - 2 - p by omega]; exact h1'⟩, g p hp, g (p + 1) hp1]
      rw [show row.length - 1 - (p + 1) = row.length - 1 - p - 1 by omega]
      have m1 := mem_getD (row := row) (p := row.length - 1 - p) (by omega)
      have m2 := mem_getD (row := row) (p := row.length - 1 - p - 1) (by omega)
      have e1 := hf _ m1 _ m2
      have e2 := hf _ m2 _ m1
      by_cases hl : row.getD (row.length - 1 - p - 1) 0 ≤ row.getD (row.length - 1 - p) 0
      · rw [Int.max_eq_right hl, Int.min_eq_left (e2 hl)]
      · rw [Int.max_eq_left (by omega), Int.min_eq_right (e1 (by omega))]
    · rw [if_neg h1]
      have hn : ¬ (0 < row.length - 1 - p ∧ C (row.length - 1 - p - 1) = true) := fun ⟨a, b⟩ => by
        apply h1
        rw [hd p (by omega), show row.length - 2 - p = row.length - 1 - p - 1 by omega]
        exact b
      by_cases h2 : 0 < p ∧ D (p - 1) = true
      · have h2' : C (row.length - 1 - p) = true := by
          have := hd (p - 1) (by omega)
          rw [h2.2, show row.length - 2 - (p - 1) = row.length - 1 - p by omega] at this
          exact this.symm
        rw [if_pos h2, if_pos h2', g p hp, g (p - 1) (by omega)]
        rw [show row.length - 1 - (p - 1) = row.length - 1 - p + 1 by omega]
        have m1 := mem_getD (row := row) (p := row.length - 1 - p) (by omega)
        have m2 := mem_getD (row := row) (p := row.length - 1 - p + 1) (by omega)
        have e1 := hf _ m1 _ m2
        have e2 := hf _ m2 _ m1
        by_cases hl : row.getD (row.length - 1 - p) 0 ≤ row.getD (row.length - 1 - p + 1) 0
        · rw [Int.min_eq_left hl, Int.max_eq_right (e1 hl)]
        · rw [Int.min_eq_right (by omega), Int.max_eq_left (e2 (by omega))]
      · have h3 : ¬ (C (row.length - 1 - p) = true) := fun b => by
          rcases Nat.eq_zero_or_pos p with e | e
          · subst e
            have := (h _ b).1
            omega
          · apply h2
            refine ⟨e, ?_⟩
            rw [hd (p - 1) (by omega), show row.length - 2 - (p - 1) = row.length - 1 - p by omega]
            exact b
        rw [if_neg h2, if_neg h3, if_neg hn, g p hp]
  · rw [List.getElem?_eq_none (by rw [rndC_len]; simpa using hp), List.getElem?_eq_none (by rw [List.length_map, List.length_reverse, rndC_len]; exact hp)]
theorem run_anti {s s' : Nat} {row : List Int} (hs : s' % 2 = (s + row.length) % 2) {f : Int → Int} (hf : ∀ a ∈ row, ∀ b ∈ row, a ≤ b → f b ≤ f a) : ∀ r, run s' r (row.reverse.map f) = (run s r row).reverse.map f
  | 0 => rfl
  | r + 1 => by
    have ih := run_anti (s := s) (s' := s') hs hf r
    show rndC (cmpd (run s' r (row.reverse.map f)).length s' (r + 1)) (run s' r (row.reverse.map f)) = (rndC (cmpd (run s r row).length s (r + 1)) (run s r row)).reverse.map f
    have hl := run_len s row r
    rw [ih, List.length_map, List.length_reverse]
    refine rndC_anti (fit_cmpd _ _ _) (fun p hp => ?_) (fun p hp => ?_) fun a ha b hb => hf a ((run_perm s row r).mem_iff.mp ha) b ((run_perm s row r).mem_iff.mp hb)
    · unfold cmpd
      rw [Bool.eq_iff_iff, decide_eq_true_eq, decide_eq_true_eq]
      rw [hl] at hp ⊢
      omega
    · unfold cmpd at hp
      exact (of_decide_eq_true hp).1
theorem flip_anti {row : List Int} {a b : Int} (h : a ≤ b) : flip row b ≤ flip row a ∨ row.length ≤ sm row b := by
  have hs : sm row a ≤ sm row b := by
    unfold sm
    rw [← List.countP_eq_length_filter, ← List.countP_eq_length_filter]
    exact List.countP_mono_left fun z _ hz => by simp at *; omega
  rcases Nat.lt_or_ge (sm row b) row.length with hb | hb
  · left
    have hl := (desc_perm row).length_eq
    unfold flip
    rw [getD_at (by omega), getD_at (by omega)]
    rcases Nat.lt_or_ge (sm row a) (sm row b) with h1 | h1
    · exact List.pairwise_iff_getElem.mp (desc_ge row) _ _ (by omega) (by omega) h1
    · have e : sm row a = sm row b := by omega
      simp only [e]
      exact Int.le_refl _
  · exact .inr hb
/-- the mirrored row, with the start that fits, is the mirrored row at each time -/
theorem run_mir {s s' : Nat} {row : List Int} (hn : row.Nodup) (hs : s' % 2 = (s + row.length) % 2) (r : Nat) : run s' r (mir row) = mir (run s r row) := by
  have hp := run_perm s row r
  have hf : ∀ k, flip (run s r row) k = flip row k := fun k => by
    unfold flip
    rw [sm_perm hp, desc_uniq ((desc_perm _).trans hp) (desc_ge _)]
  show run s' r (row.reverse.map (flip row)) = (run s r row).reverse.map (flip (run s r row))
  rw [run_anti hs (f := flip row)]
  · exact List.map_congr_left fun k _ => (hf k).symm
  · intro a _ b hb hab
    rcases flip_anti (row := row) hab with h | h
    · exact h
    · have := sm_lt hn hb; omega
theorem sorted_mir {row : List Int} (hn : row.Nodup) : Sorted (mir row) ↔ Sorted row := by
  have h : ∀ {row : List Int}, row.Nodup → Sorted row → Sorted (mir row) := by
    intro row hn hs
    show (row.reverse.map (flip row)).Pairwise _
    rw [List.pairwise_map, List.pairwise_reverse]
    refine List.Pairwise.imp_of_mem ?_ hs
    intro a b ha hb hab
    rcases flip_anti (row := row) hab with h | h
    · exact h
    · have := sm_lt hn hb; omega
  constructor
  · intro q
    have := h (mir_nodup hn) q
    rwa [mir_mir hn] at this
  · exact h hn
theorem need_mir {s s' : Nat} {row : List Int} (hn : row.Nodup) (hs : s' % 2 = (s + row.length) % 2) : need s' (mir row) = need s row := by
  have h : ∀ r : Nat, need s' (mir row) ≤ r ↔ need s row ≤ r := fun r => by
    rw [← sorted_run, ← sorted_run, run_mir hn hs, sorted_mir ((run_perm s row r).nodup_iff.mpr hn)]
  have h1 := h (need s' (mir row)).toNat
  have h2 := h (need s row).toNat
  have := need_nn s row
  have := need_nn s' (mir row)
  omega
/-- other keys in the same order need as many rounds -/
theorem need_mono {s : Nat} {row : List Int} {f : Int → Int} (hf : ∀ a ∈ row, ∀ b ∈ row, a < b → f a < f b) : need s (row.map f) = need s row := by
  have hf' : ∀ a ∈ row, ∀ b ∈ row, a ≤ b → f a ≤ f b := fun a ha b hb h => by
    by_cases e : a = b
    · subst e; exact Int.le_refl _
    · have := hf a ha b hb (by omega); omega
  have h : ∀ r : Nat, need s (row.map f) ≤ r ↔ need s row ≤ r := fun r => by
    rw [← sorted_run, ← sorted_run, run_mono hf']
    have hp := run_perm s row r
    show (((run s r row).map f).Pairwise _) ↔ _
    rw [List.pairwise_map]
    constructor
    · intro q
      refine List.Pairwise.imp_of_mem ?_ q
      intro a b ha hb hab
      rcases Int.lt_or_le b a with hl | hl
      · have := hf b (hp.mem_iff.mp hb) a (hp.mem_iff.mp ha) hl; omega
      · exact hl
    · intro q
      refine List.Pairwise.imp_of_mem ?_ q
      intro a b ha hb hab
      exact hf' a (hp.mem_iff.mp ha) b (hp.mem_iff.mp hb) hab
  have h1 := h (need s (row.map f)).toNat
  have h2 := h (need s row).toNat
  have := need_nn s row
  have := need_nn s (row.map f)
  omega
end MX

namespace MX
/-! how far a row is: light keys in a beginning of the row -/
def cnt (t : Int) (q : Nat) (row : List Int) : Nat := ((row.take q).filter fun z => decide (z ≤ t)).length
def b1 (t x : Int) : Nat := if x ≤ t then 1 else 0
theorem cnt_zero (t : Int) (row : List Int) : cnt t 0 row = 0 := rfl
theorem cnt_nil (t : Int) (q : Nat) : cnt t q [] = 0 := by unfold cnt; simp
theorem cnt_cons (t : Int) (q : Nat) (x : Int) (xs : List Int) : cnt t (q + 1) (x :: xs) = b1 t x + cnt t q xs := by
  unfold cnt b1
  rw [List.take_succ_cons]
  by_cases h : x ≤ t
  · rw [List.filter_cons_of_pos (by simpa using h), if_pos h, List.length_cons]; omega
  · rw [List.filter_cons_of_neg (by simpa using h), if_neg h]; omega
theorem b1_01 (t x : Int) : b1 t x ≤ 1 := by unfold b1; split <;> omega
theorem b1_mm (t x y : Int) : b1 t (min x y) + b1 t (max x y) = b1 t x + b1 t y := by
  unfold b1
  rcases Int.le_total x y with h | h
  · rw [Int.min_eq_left h, Int.max_eq_right h]
  · rw [Int.min_eq_right h, Int.max_eq_left h]; omega
theorem b1_min (t x y : Int) : b1 t (min x y) = min 1 (b1 t x + b1 t y) := by
  unfold b1
  rcases Int.le_total x y with h | h
  · rw [Int.min_eq_left h]
    by_cases h1 : x ≤ t <;> by_cases h2 : y ≤ t <;> simp [h1, h2]
    omega
  · rw [Int.min_eq_right h]
    by_cases h1 : x ≤ t <;> by_cases h2 : y ≤ t <;> simp [h1, h2]
    omega
theorem cnt_step (t : Int) : ∀ (q : Nat) (l : List Int), cnt t q l ≤ cnt t (q + 1) l ∧ cnt t (q + 1) l ≤ cnt t q l + 1
  | q, [] => by rw [cnt_nil, cnt_nil]; omega
  | 0, x :: xs => by rw [cnt_cons, cnt_zero, cnt_zero]; have := b1_01 t x; omega
  | q + 1, x :: xs => by
    have := cnt_step t q xs
    rw [cnt_cons, cnt_cons]; omega
theorem cnt_go {C : Nat → Bool} (hC : ∀ q, C q = true → C (q + 1) = false) (t : Int) : ∀ (l : List Int) (p i : Nat), (∀ q, C q = true → q + 1 < p + l.length) →
    cnt t i (go C p l) = if 0 < i ∧ C (p + i - 1) = true then min (cnt t (i - 1) l + 1) (cnt t (i + 1) l) else cnt t i l
  | [], p, i, hb => by
    rw [if_neg (fun ⟨a, b⟩ => by have := hb _ b; simp only [List.length_nil] at this; omega)]; rfl
  | [x], p, i, hb => by
    rw [if_neg (fun ⟨a, b⟩ => by have := hb _ b; simp only [List.length_cons, List.length_nil] at this; omega)]; rfl
  | x :: y :: tl, p, i, hb => by
    unfold go
    by_cases hc : C p = true
    · rw [if_pos hc]
      have ih := fun i => cnt_go hC t tl (p + 2) i (fun q h => by have := hb q h; simp only [List.length_cons] at this; omega)
      match i with
      | 0 => rw [if_neg (by omega)]; rfl
      | 1 =>
        rw [if_pos ⟨by omega, by simpa using hc⟩, cnt_cons, cnt_cons, cnt_cons, Nat.sub_self, cnt_zero, cnt_zero, cnt_zero, b1_min]
        omega
      | i + 2 =>
        rw [cnt_cons, cnt_cons, ih i, ← Nat.add_assoc, b1_mm]
        by_cases h : C (p + (i + 2) - 1) = true
        · have hi : 0 < i := by
            rcases Nat.eq_zero_or_pos i with e | e
            · subst e
              rw [show p + (0 + 2) - 1 = p + 1 by omega, hC p hc] at h; cases h
            · exact e
          rw [if_pos ⟨hi, by rw [show p + 2 + i - 1 = p + (i + 2) - 1 by omega]; exact h⟩, if_pos ⟨by omega, h⟩]
          obtain ⟨j, rfl⟩ : ∃ j, i = j + 1 := ⟨i - 1, by omega⟩
          have e1 : cnt t (j + 1 + 2 - 1) (x :: y :: tl) = b1 t x + (b1 t y + cnt t j tl) := by
            rw [show j + 1 + 2 - 1 = j + 1 + 1 by omega, cnt_cons, cnt_cons]
          have e2 : cnt t (j + 1 + 2 + 1) (x :: y :: tl) = b1 t x + (b1 t y + cnt t (j + 1 + 1) tl) := by
            rw [show j + 1 + 2 + 1 = j + 1 + 1 + 1 + 1 by omega, cnt_cons, cnt_cons]
          rw [e1, e2, Nat.add_sub_cancel]
          omega
        · rw [if_neg (fun ⟨a, b⟩ => h (by rw [show p + (i + 2) - 1 = p + 2 + i - 1 by omega]; exact b)), if_neg (fun ⟨a, b⟩ => h b), cnt_cons, cnt_cons]
          omega
    · rw [if_neg hc]
      have ih := fun i => cnt_go hC t (y :: tl) (p + 1) i (fun q h => by have := hb q h; simp only [List.length_cons] at *; omega)
      match i with
      | 0 => rw [if_neg (by omega)]; rfl
      | i + 1 =>
        rw [cnt_cons, ih i]
        by_cases h : C (p + (i + 1) - 1) = true
        · have hi : 0 < i := by
            rcases Nat.eq_zero_or_pos i with e | e
            · subst e
              exact absurd h (by simpa using hc)
            · exact e
          rw [if_pos ⟨hi, by rw [show p + 1 + i - 1 = p + (i + 1) - 1 by omega]; exact h⟩, if_pos ⟨by omega, h⟩]
          obtain ⟨j, rfl⟩ : ∃ j, i = j + 1 := ⟨i - 1, by omega⟩
          have e1 : cnt t (j + 1 + 1 - 1) (x :: y :: tl) = b1 t x + cnt t j (y :: tl) := by
            rw [show j + 1 + 1 - 1 = j + 1 by omega, cnt_cons]
          have e2 : cnt t (j + 1 + 1 + 1) (x :: y :: tl) = b1 t x + cnt t (j + 1 + 1) (y :: tl) := cnt_cons _ _ _ _
          rw [e1, e2, Nat.add_sub_cancel]
          omega
        · rw [if_neg (fun ⟨a, b⟩ => h (by rw [show p + (i + 1) - 1 = p + 1 + i - 1 by omega]; exact b)), if_neg (fun ⟨a, b⟩ => h b), cnt_cons]
theorem cnt_rndC {C : Nat → Bool} {row : List Int} (h : Fit row.length C) (t : Int) (i : Nat) : cnt t i (rndC C row) = if 0 < i ∧ C (i - 1) = true then min (cnt t (i - 1) row + 1) (cnt t (i + 1) row) else cnt t i row := by
  rw [rndC_go h, cnt_go (fun q e => (h q e).2) t row 0 i (fun q e => by simpa using (h q e).1), Nat.zero_add]
/-- a is as far as b, at one threshold -/
def FarT (t : Int) (a b : List Int) : Prop := ∀ q, cnt t q b ≤ cnt t q a
def Far (a b : List Int) : Prop := ∀ t, FarT t a b
theorem FarT.refl (t : Int) (a : List Int) : FarT t a a := fun _ => Nat.le_refl _
theorem FarT.trans {t : Int} {a b c : List Int} (h : FarT t a b) (g : FarT t b c) : FarT t a c := fun q => Nat.le_trans (g q) (h q)
theorem Far.refl (a : List Int) : Far a a := fun t => FarT.refl t a
theorem Far.trans {a b c : List Int} (h : Far a b) (g : Far b c) : Far a c := fun t => (h t).trans (g t)
/-- a round never brings a row back -/
theorem far_rndC {C : Nat → Bool} {row : List Int} (h : Fit row.length C) : Far (rndC C row) row := by
  intro t i
  rw [cnt_rndC h]
  split
  · rename_i hi
    have h1 := cnt_step t (i - 1) row
    have h2 := cnt_step t i row
    rw [show i - 1 + 1 = i by omega] at h1
    omega
  · exact Nat.le_refl _
/-- comparisons that are lost never help -/
theorem farT_rndC {t : Int} {C D : Nat → Bool} {a b : List Int} (hl : b.length = a.length) (h : Fit a.length C) (hd : ∀ p, D p = true → C p = true) (hf : FarT t a b) : FarT t (rndC C a) (rndC D b) := by
  intro i
  have hD : Fit b.length D := by rw [hl]; exact fit_sub h hd
  rw [cnt_rndC h, cnt_rndC hD]
  have g1 := hf (i - 1)
  have g2 := hf i
  have g3 := hf (i + 1)
  have a1 := cnt_step t (i - 1) a
  have a2 := cnt_step t i a
  by_cases h1 : 0 < i ∧ D (i - 1) = true
  · rw [if_pos h1, if_pos ⟨h1.1, hd _ h1.2⟩]; omega
  · rw [if_neg h1]
    split
    · rename_i hi
      rw [show i - 1 + 1 = i by omega] at a1
      omega
    · exact g2
theorem farT_run {t : Int} {a b : List Int} (hl : b.length = a.length) (hf : FarT t a b) (s : Nat) : ∀ r, FarT t (run s r a) (run s r b)
  | 0 => hf
  | r + 1 => by
    have ih := farT_run hl hf s r
    show FarT t (rndC (cmpd (run s r a).length s (r + 1)) (run s r a)) (rndC (cmpd (run s r b).length s (r + 1)) (run s r b))
    have e : (run s r b).length = (run s r a).length := by rw [run_len, run_len, hl]
    rw [e]
    exact farT_rndC e (fit_cmpd _ _ _) (fun _ h => h) ih
theorem cnt_le_q (t : Int) (q : Nat) (row : List Int) : cnt t q row ≤ q := by
  unfold cnt
  have h1 := List.length_filter_le (fun z => decide (z ≤ t)) (row.take q)
  have h2 := List.length_take_le q row
  omega
theorem cnt_mono (t : Int) (row : List Int) {p q : Nat} (h : p ≤ q) : cnt t p row ≤ cnt t q row := by
  induction q with
  | zero => rw [show p = 0 by omega]; exact Nat.le_refl _
  | succ q ih =>
    rcases Nat.lt_or_ge p (q + 1) with h1 | h1
    · have := ih (by omega); have := (cnt_step t q row).1; omega
    · rw [show p = q + 1 by omega]; exact Nat.le_refl _
theorem cnt_all (t : Int) (row : List Int) {q : Nat} (h : row.length ≤ q) : cnt t q row = (ltF t 0 row).length := by
  unfold cnt
  rw [List.take_of_length_le h, ltF_len]
theorem cnt_le_all (t : Int) (q : Nat) (row : List Int) : cnt t q row ≤ (ltF t 0 row).length := by
  rw [← cnt_all t row (Nat.le_max_left row.length q)]
  exact cnt_mono t row (Nat.le_max_right _ _)
/-- the light keys before a place -/
theorem cnt_ltF (t : Int) : ∀ (row : List Int) (p q : Nat), cnt t q row = ((ltF t p row).filter fun b => decide (b < ((p + q : Nat) : Int))).length
  | [], p, q => by rw [cnt_nil]; rfl
  | x :: xs, p, 0 => by
    rw [cnt_zero, List.filter_eq_nil_iff.mpr (fun b hb => by have := ltF_bd t _ p b hb; simp; omega)]; rfl
  | x :: xs, p, q + 1 => by
    have ih := cnt_ltF t xs (p + 1) q
    rw [cnt_cons, ih, show p + 1 + q = p + (q + 1) by omega]
    show _ = ((if x ≤ t then (p : Int) :: ltF t (p + 1) xs else ltF t (p + 1) xs).filter _).length
    unfold b1
    split
    · rw [List.filter_cons_of_pos (by simp; omega), List.length_cons]; omega
    · omega
theorem first_cnt (t : Int) (row : List Int) : (∃ m, ltF t 0 row = first m) ↔ cnt t (ltF t 0 row).length row = (ltF t 0 row).length := by
  rw [cnt_ltF t row 0]
  have ha := ltF_asc t row 0
  have hb : ∀ b ∈ ltF t 0 row, 0 ≤ b := fun b h => by have := ltF_bd t row 0 b h; omega
  generalize ltF t 0 row = ps at *
  rw [Nat.zero_add]
  constructor
  · rintro ⟨m, rfl⟩
    rw [List.filter_eq_self.mpr (fun b h => by rw [mem_first] at h; rw [first_len]; simp; omega)]
  · intro h
    have h1 : ∀ b ∈ ps, b < ps.length := fun b hb' => by
      have := (List.filter_eq_self (p := fun b => decide (b < (ps.length : Int)))).mp (List.Sublist.eq_of_length List.filter_sublist h) b hb'
      simpa using this
    have hP := places_of ha hb
    have hd := fun j hj => dly_le (s := 0) ha h1 j hj
    refine ⟨ps.length, List.ext_getElem? fun j => ?_⟩
    rcases Nat.lt_or_ge j ps.length with hj | hj
    · rw [first_at _ j hj, List.getElem?_eq_getElem hj]
      have h2 : (j : Int) ≤ ps.getD j 0 := hP.ge j hj
      rw [getD_at hj] at h2
      have h3 := hd j hj
      unfold dly at h3
      congr 1
      omega
    · rw [List.getElem?_eq_none hj, List.getElem?_eq_none (by rw [first_len]; exact hj)]
/-- a row that is as far never needs more rounds, at a threshold -/
theorem trd_far {t : Int} {a b : List Int} (hl : b.length = a.length) (hm : (ltF t 0 a).length = (ltF t 0 b).length) (hf : FarT t a b) (s : Nat) : trd s (ltF t 0 a) ≤ trd s (ltF t 0 b) := by
  have h : ∀ r : Nat, trd s (ltF t 0 b) ≤ r → trd s (ltF t 0 a) ≤ r := fun r hr => by
    rw [← first_run] at hr ⊢
    rw [first_cnt] at hr ⊢
    have l1 : (ltF t 0 (run s r a)).length = (ltF t 0 a).length := by rw [lt_run, List.length_map, cols_len]
    have l2 : (ltF t 0 (run s r b)).length = (ltF t 0 b).length := by rw [lt_run, List.length_map, cols_len]
    have h1 := farT_run hl hf s r (ltF t 0 a).length
    have h2 := cnt_le_q t (ltF t 0 a).length (run s r a)
    rw [l2, ← hm] at hr
    rw [l1]
    omega
  have := h (trd s (ltF t 0 b)).toNat
  have h0 : 0 ≤ trd s (ltF t 0 b) := gmax_nn _
  omega
theorem ltF_perm {t : Int} {a b : List Int} (h : a.Perm b) : (ltF t 0 a).length = (ltF t 0 b).length := by
  rw [ltF_len, ltF_len]; exact (h.filter _).length_eq
theorem need_far {a b : List Int} (hp : a.Perm b) (hf : ∀ t ∈ a, FarT t a b) (s : Nat) : need s a ≤ need s b := by
  have h := (need_le s b _).mp (Int.le_refl _)
  rw [need_le]
  refine ⟨need_nn s b, fun t ht => ?_⟩
  have h1 := trd_far hp.length_eq.symm (ltF_perm hp) (hf t ht) s
  have h2 := h.2 t (hp.mem_iff.mp ht)
  omega
/-- a sorted row is as far as any other one -/
theorem far_sorted {a b : List Int} (hp : a.Perm b) (hs : Sorted a) : Far a b := by
  intro t q
  obtain ⟨m, e⟩ := lt_sorted (t := t) a hs
  have hm : (ltF t 0 a).length = m := by rw [e, first_len]
  have h1 := (first_cnt t a).mp ⟨m, e⟩
  have h2 := cnt_le_all t q b
  rw [← ltF_perm hp] at h2
  have h3 := cnt_le_q t q b
  rcases Nat.lt_or_ge q (ltF t 0 a).length with h | h
  · have : cnt t q a = q := by
      rw [cnt_ltF t a 0, e]
      have : ((first m).filter fun b => decide (b < ((0 + q : Nat) : Int))) = first q := by
        unfold first
        rw [List.filter_map, show m = q + (m - q) by omega, List.range_add, List.filter_append]
        rw [List.filter_eq_self.mpr (fun i hi => by have := List.mem_range.mp hi; simp; omega), List.filter_eq_nil_iff.mpr (fun i hi => by obtain ⟨j, _, rfl⟩ := List.mem_map.mp hi; simp; omega), List.append_nil]
      rw [this, first_len]
    omega
  · have := cnt_mono t a h
    omega
/-- as far as each other: the same light places -/
theorem sorted_far {a b : List Int} (hp : a.Perm b) (hf : Far a b) (hs : Sorted b) : Sorted a := by
  have h := need_far hp (fun t _ => hf t) 0
  have h1 := (need_zero 0 b).mpr hs
  have h2 := need_nn 0 a
  exact (need_zero 0 a).mp (by omega)
end MX

namespace MX
/-! exchanges of neighbours, rows within rows -/
def swp (p : Nat) (row : List Int) : List Int := rndC (fun q => q == p) row
theorem fit_one {n p : Nat} (h : p + 1 < n) : Fit n fun q => q == p := by
  intro q e
  have : q = p := by simpa using e
  subst this
  exact ⟨h, by simp⟩
/-- the exchange of a descending pair, as slices -/
theorem go_skip {C : Nat → Bool} : ∀ (k p : Nat) (l : List Int), (∀ q, p ≤ q → q < p + k → C q = false) → k < l.length → go C p l = l.take k ++ go C (p + k) (l.drop k)
  | 0, p, l, _, _ => by simp
  | k + 1, p, [], _, h => absurd h (by simp)
  | k + 1, p, [x], _, h => absurd h (by simp)
  | k + 1, p, x :: y :: t, hC, h => by
    show (if C p then _ else x :: go C (p + 1) (y :: t)) = _
    rw [hC p (by omega) (by omega), if_neg (by simp)]
    rw [go_skip k (p + 1) (y :: t) (fun q h1 h2 => hC q (by omega) (by omega)) (by simpa using h), List.take_succ_cons, List.drop_succ_cons, List.cons_append, show p + 1 + k = p + (k + 1) by omega]
theorem go_none {C : Nat → Bool} : ∀ (l : List Int) (p : Nat), (∀ q, p ≤ q → C q = false) → go C p l = l
  | [], _, _ => rfl
  | [x], _, _ => rfl
  | x :: y :: t, p, h => by
    show (if C p then _ else x :: go C (p + 1) (y :: t)) = _
    rw [h p (by omega), if_neg (by simp), go_none (y :: t) (p + 1) fun q hq => h q (by omega)]
theorem swp_eq {row : List Int} {p : Nat} (h : p + 1 < row.length) (hd : row.getD (p + 1) 0 < row.getD p 0) : swp p row = row.take p ++ (row.getD (p + 1) 0 :: row.getD p 0 :: row.drop (p + 2)) := by
  unfold swp
  rw [rndC_go (fit_one h), go_skip p 0 row (fun q _ hq => by simp; omega) (by omega), Nat.zero_add]
  congr 1
  rw [List.drop_eq_getElem_cons (by omega : p < row.length), List.drop_eq_getElem_cons h]
  show (if (p == p) = true then _ else _) = _
  rw [if_pos (by simp)]
  rw [getD_at h, getD_at (by omega)] at *
  rw [Int.min_eq_right (by omega), Int.max_eq_left (by omega), go_none _ _ fun q hq => by simp; omega]
theorem swp_perm {row : List Int} {p : Nat} (h : p + 1 < row.length) : (swp p row).Perm row := rndC_perm (fit_one h)
theorem swp_len (row : List Int) (p : Nat) : (swp p row).length = row.length := rndC_len _ _
theorem swp_far {row : List Int} {p : Nat} (h : p + 1 < row.length) : Far (swp p row) row := far_rndC (fit_one h)
/-- an exchange takes away one inversion -/
theorem swp_inv {row : List Int} {p : Nat} (h : p + 1 < row.length) (hd : row.getD (p + 1) 0 < row.getD p 0) : (invP row).Perm ((row.getD (p + 1) 0, row.getD p 0) :: invP (swp p row)) := by
  have h1 := inv_rndC (C := fun q => q == p) (row := row) (fit_one h)
  have h2 : exN (fun q => q == p) row = [p] := by
    unfold exN
    have e : (fun q => (q == p) && decide (row.getD (q + 1) 0 < row.getD q 0)) = fun q => q == p := by
      funext q
      by_cases e : q = p
      · subst e; rw [decide_eq_true hd, Bool.and_true]
      · rw [show (q == p) = false by simpa using e, Bool.false_and]
    rw [e]
    have : ((List.range (row.length - 1)).filter fun q => q == p) = [p] := by
      rw [List.filter_beq, List.nodup_range.count, if_pos (List.mem_range.mpr (by omega))]; rfl
    exact this
  rw [h2] at h1
  exact h1
theorem idx_cons {x a : Int} (xs : List Int) (h : x ≠ a) : (x :: xs).idxOf a = xs.idxOf a + 1 := by
  rw [List.idxOf_cons, show (x == a) = false by simpa using h]; rfl
/-- the place of a key -/
def plc (row : List Int) (k : Int) : Nat := row.idxOf k
theorem inv_plc {row : List Int} (hn : row.Nodup) {a b : Int} (ha : a ∈ row) (hb : b ∈ row) : (a, b) ∈ invP row ↔ a < b ∧ row.idxOf b < row.idxOf a := by
  rw [invP_mem_iff]
  have la := List.idxOf_lt_length_of_mem ha
  have lb := List.idxOf_lt_length_of_mem hb
  constructor
  · rintro ⟨h, i, j, hi, hj, hij, e1, e2⟩
    have i1 : row.idxOf b = i := by rw [← e1]; exact hn.idxOf_getElem i hi
    have i2 : row.idxOf a = j := by rw [← e2]; exact hn.idxOf_getElem j hj
    exact ⟨h, by omega⟩
  · rintro ⟨h, hij⟩
    exact ⟨h, _, _, lb, la, hij, List.getElem_idxOf lb, List.getElem_idxOf la⟩
/-- within: each inversion of one is one of other -/
def Within (one other : List Int) : Prop := ∀ p, p ∈ invP one → p ∈ invP other
theorem idx_ne {row : List Int} {a b : Int} (ha : a ∈ row) (hb : b ∈ row) (h : a ≠ b) : row.idxOf a ≠ row.idxOf b := fun e => by
  have h1 := List.getElem_idxOf (List.idxOf_lt_length_of_mem ha)
  have h2 := List.getElem_idxOf (List.idxOf_lt_length_of_mem hb)
  apply h
  rw [← h1, ← h2]
  simp only [e]
/-- if no descending neighbours of other stand in the right order in one, the inversions are the same -/
theorem within_stuck {one other : List Int} (hn : one.Nodup) (hp : one.Perm other) (hw : Within one other) (hs : ∀ p, p + 1 < other.length → other.getD (p + 1) 0 < other.getD p 0 → (other.getD (p + 1) 0, other.getD p 0) ∈ invP one) : Within other one := by
  have hn' : other.Nodup := hp.nodup_iff.mp hn
  have key : ∀ d i j, j = i + d → ∀ (hi : i < other.length) (hj : j < other.length), i < j → other[j] < other[i] → (other[j], other[i]) ∈ invP one := by
    intro d
    induction d using Nat.strongRecOn with
    | ind d ih =>
      intro i j hd hi hj hij hlt
      rcases Nat.eq_or_lt_of_le (show i + 1 ≤ j by omega) with e | e
      · subst e
        have := hs i hj (by rw [getD_at hj, getD_at hi]; exact hlt)
        rw [getD_at hj, getD_at hi] at this
        exact this
      · have hk : i + 1 < other.length := by omega
        have mi : other[i] ∈ one := hp.mem_iff.mpr (List.getElem_mem hi)
        have mj : other[j] ∈ one := hp.mem_iff.mpr (List.getElem_mem hj)
        have mk : other[i + 1] ∈ one := hp.mem_iff.mpr (List.getElem_mem hk)
        have xi : other.idxOf other[i] = i := hn'.idxOf_getElem i hi
        have xj : other.idxOf other[j] = j := hn'.idxOf_getElem j hj
        have xk : other.idxOf other[i + 1] = i + 1 := hn'.idxOf_getElem (i + 1) hk
        have hW : ∀ a b, a ∈ one → b ∈ one → a < b → one.idxOf b < one.idxOf a → other.idxOf b < other.idxOf a := fun a b ha hb h h2 =>
          ((inv_plc hn' (hp.mem_iff.mp ha) (hp.mem_iff.mp hb)).mp (hw _ ((inv_plc hn ha hb).mpr ⟨h, h2⟩))).2
        have nij : one.idxOf other[i] ≠ one.idxOf other[j] := idx_ne mi mj (by omega)
        refine (inv_plc hn mj mi).mpr ⟨hlt, ?_⟩
        rcases Nat.lt_or_ge (one.idxOf other[i]) (one.idxOf other[j]) with h | h
        · exact h
        exfalso
        have hc1 : other[i + 1] ≠ other[i] := fun e => by have := congrArg other.idxOf e; omega
        have hc2 : other[i + 1] ≠ other[j] := fun e => by have := congrArg other.idxOf e; omega
        rcases Int.lt_or_gt_of_ne hc1 with hl | hl
        · have q1 := ih 1 (by omega) i (i + 1) rfl hi hk (by omega) hl
          have q1 := ((inv_plc hn mk mi).mp q1).2
          rcases Int.lt_or_gt_of_ne hc2 with h2 | h2
          · have := hW _ _ mk mj h2 (by omega)
            omega
          · have q2 := ih (d - 1) (by omega) (i + 1) j (by omega) hk hj e h2
            have q2 := ((inv_plc hn mj mk).mp q2).2
            omega
        · have h2 : other[j] < other[i + 1] := by omega
          have q2 := ih (d - 1) (by omega) (i + 1) j (by omega) hk hj e h2
          have q2 := ((inv_plc hn mj mk).mp q2).2
          have := hW _ _ mi mk hl (by omega)
          omega
  rintro ⟨a, b⟩ hab
  obtain ⟨h, i, j, hi, hj, hij, e1, e2⟩ := (invP_mem_iff other).mp hab
  have := key (j - i) i j (by omega) hi hj hij (by rw [e1, e2]; exact h)
  rw [e1, e2] at this
  exact this
/-- the inversions tell the row -/
theorem inv_inj {one other : List Int} (hn : one.Nodup) (hp : one.Perm other) (h1 : Within one other) (h2 : Within other one) : one = other := by
  have hn' : other.Nodup := hp.nodup_iff.mp hn
  have h : ∀ (l1 l2 : List Int), l1.Nodup → l1.Perm l2 → (∀ a ∈ l1, ∀ b ∈ l1, l1.idxOf a < l1.idxOf b → l2.idxOf a < l2.idxOf b) → l1 = l2 := by
    intro l1
    induction l1 with
    | nil => intro l2 _ hp _; exact (List.Perm.eq_nil hp.symm).symm
    | cons x xs ih =>
      intro l2 hn hp hi
      obtain ⟨hx, hxs⟩ := List.nodup_cons.mp hn
      cases l2 with
      | nil => exact absurd hp.length_eq (by simp)
      | cons y ys =>
        have hn2 : (y :: ys).Nodup := hp.nodup_iff.mp hn
        have e : x = y := by
          by_cases e : x = y
          · exact e
          · exfalso
            have hy : y ∈ x :: xs := hp.mem_iff.mpr (by simp)
            have := hi x (by simp) y hy (by
              rw [List.idxOf_cons_self, idx_cons _ e]
              omega)
            rw [List.idxOf_cons_self] at this
            omega
        subst e
        congr 1
        refine ih ys hxs (List.Perm.cons_inv hp) fun a ha b hb hab => ?_
        have ha' : x ≠ a := fun e => hx (e ▸ ha)
        have hb' : x ≠ b := fun e => hx (e ▸ hb)
        have := hi a (List.mem_cons_of_mem _ ha) b (List.mem_cons_of_mem _ hb) (by
          rw [idx_cons _ ha', idx_cons _ hb']; omega)
        rw [idx_cons _ ha', idx_cons _ hb'] at this
        omega
  refine h one other hn hp fun a ha b hb hab => ?_
  have hne : a ≠ b := fun e => by subst e; omega
  have ha' := hp.mem_iff.mp ha
  have hb' := hp.mem_iff.mp hb
  rcases Int.lt_or_gt_of_ne hne with hl | hl
  · rcases Nat.lt_or_ge (other.idxOf a) (other.idxOf b) with q | q
    · exact q
    · have := idx_ne ha' hb' hne
      have := ((inv_plc hn ha hb).mp (h2 _ ((inv_plc hn' ha' hb').mpr ⟨hl, by omega⟩))).2
      omega
  · exact ((inv_plc hn' hb' ha').mp (h1 _ ((inv_plc hn hb ha).mpr ⟨hl, hab⟩))).2
/-- the next place of the path from other to one -/
def good (one other : List Int) (p : Nat) : Bool := decide (other.getD (p + 1) 0 < other.getD p 0) && decide (one.idxOf (other.getD (p + 1) 0) < one.idxOf (other.getD p 0))
theorem within_step {one other : List Int} (hn : one.Nodup) (hp : one.Perm other) (hw : Within one other) {p : Nat} (h : p + 1 < other.length) (hg : good one other p = true) : Within one (swp p other) := by
  have hn' : other.Nodup := hp.nodup_iff.mp hn
  unfold good at hg
  rw [Bool.and_eq_true, decide_eq_true_eq, decide_eq_true_eq] at hg
  have h1 := swp_inv h hg.1
  intro q hq
  have h2 := h1.mem_iff.mp (hw q hq)
  rcases List.mem_cons.mp h2 with e | e
  · exfalso
    subst e
    have m1 : other.getD p 0 ∈ one := hp.mem_iff.mpr (mem_getD (by omega))
    have m2 : other.getD (p + 1) 0 ∈ one := hp.mem_iff.mpr (mem_getD h)
    have := ((inv_plc hn m2 m1).mp hq).2
    omega
  · exact e
/-- while the rows differ, there is a next place -/
theorem within_next {one other : List Int} (hn : one.Nodup) (hp : one.Perm other) (hw : Within one other) (hne : one ≠ other) : ∃ p, p + 1 < other.length ∧ good one other p = true := by
  apply Classical.byContradiction
  intro hno
  apply hne
  refine inv_inj hn hp hw (within_stuck hn hp hw fun p h hd => ?_)
  have m1 : other.getD p 0 ∈ one := hp.mem_iff.mpr (mem_getD (by omega))
  have m2 : other.getD (p + 1) 0 ∈ one := hp.mem_iff.mpr (mem_getD h)
  refine (inv_plc hn m2 m1).mpr ⟨hd, ?_⟩
  rcases Nat.lt_or_ge (one.idxOf (other.getD p 0)) (one.idxOf (other.getD (p + 1) 0)) with q | q
  · exact q
  · exfalso
    have := idx_ne m1 m2 (by omega)
    apply hno
    refine ⟨p, h, ?_⟩
    unfold good
    rw [Bool.and_eq_true, decide_eq_true_eq, decide_eq_true_eq]
    exact ⟨hd, by omega⟩
/-- rows that arise from each other by exchanges are within -/
theorem within_swp {row : List Int} {p : Nat} (h : p + 1 < row.length) (hd : row.getD (p + 1) 0 < row.getD p 0) : Within (swp p row) row := fun q hq => (swp_inv h hd).mem_iff.mpr (List.mem_cons_of_mem _ hq)
/-- within: as far, at each threshold -/
theorem within_far {one : List Int} (hn : one.Nodup) : ∀ (k : Nat) (other : List Int), (invP other).length = k → one.Perm other → Within one other → Far one other := by
  intro k
  induction k using Nat.strongRecOn with
  | ind k ih =>
    intro other hk hp hw
    by_cases e : one = other
    · subst e; exact Far.refl _
    · obtain ⟨p, h, hg⟩ := within_next hn hp hw e
      have hd : other.getD (p + 1) 0 < other.getD p 0 := by
        unfold good at hg
        rw [Bool.and_eq_true, decide_eq_true_eq] at hg
        exact hg.1
      have hl := (swp_inv h hd).length_eq
      rw [List.length_cons] at hl
      exact (ih _ (by omega) (swp p other) rfl (hp.trans (swp_perm h).symm) (within_step hn hp hw h hg)).trans (swp_far h)
/-! rows with one key more -/
theorem ltF_app (t : Int) : ∀ (a b : List Int) (p : Nat), ltF t p (a ++ b) = ltF t p a ++ ltF t (p + a.length) b
  | [], b, p => rfl
  | x :: xs, b, p => by
    have ih := ltF_app t xs b (p + 1)
    rw [List.length_cons, show p + (xs.length + 1) = p + 1 + xs.length by omega, List.cons_append]
    show (if x ≤ t then (p : Int) :: ltF t (p + 1) (xs ++ b) else ltF t (p + 1) (xs ++ b)) = (if x ≤ t then (p : Int) :: ltF t (p + 1) xs else ltF t (p + 1) xs) ++ _
    rw [ih]
    split <;> rfl
theorem ltF_full {t : Int} {row : List Int} (h : ∀ z ∈ row, z ≤ t) : ltF t 0 row = first row.length := by
  have hP := places_lt row t
  have hl : (ltF t 0 row).length = row.length := by
    rw [ltF_len, List.filter_eq_self.mpr fun z hz => by simpa using h z hz]
  have h1 := (first_cnt t row).mpr (by rw [hl, cnt_all t row (Nat.le_refl _), hl])
  obtain ⟨m, e⟩ := h1
  rw [e, ← hl, e, first_len]
theorem trd_first (s m : Nat) : trd s (first m) = 0 := by
  have h : trd s (first m) ≤ 0 := by
    rw [trd_le]
    refine ⟨Int.le_refl _, fun j hj hne => absurd ?_ hne⟩
    have := first_at m j (by rw [first_len] at hj; exact hj)
    rw [List.getElem?_eq_getElem hj] at this
    exact Option.some.inj this
  have : 0 ≤ trd s (first m) := gmax_nn _
  omega
/-- a greater key at the end changes nothing -/
theorem need_snoc {s : Nat} {row : List Int} {z : Int} (h : ∀ x ∈ row, x < z) : need s (row ++ [z]) = need s row := by
  have h1 : ∀ t ∈ row, ltF t 0 (row ++ [z]) = ltF t 0 row := fun t ht => by
    rw [ltF_app, lt_none [z] _ (fun y hy => by rw [List.mem_singleton] at hy; subst hy; exact h t ht), List.append_nil]
  have h2 : trd s (ltF z 0 (row ++ [z])) = 0 := by
    rw [ltF_full, trd_first]
    intro y hy
    rcases List.mem_append.mp hy with q | q
    · have := h y q; omega
    · rw [List.mem_singleton] at q; omega
  have h3 : ∀ v, need s (row ++ [z]) ≤ v ↔ need s row ≤ v := fun v => by
    rw [need_le, need_le]
    constructor
    · rintro ⟨h0, q⟩
      exact ⟨h0, fun t ht => by have := q t (List.mem_append_left _ ht); rwa [h1 t ht] at this⟩
    · rintro ⟨h0, q⟩
      refine ⟨h0, fun t ht => ?_⟩
      rcases List.mem_append.mp ht with e | e
      · rw [h1 t e]; exact q t e
      · rw [List.mem_singleton] at e; subst e; rw [h2]; exact h0
  have := (h3 (need s row)).mpr (Int.le_refl _)
  have := (h3 (need s (row ++ [z]))).mp (Int.le_refl _)
  omega
/-- a smaller key at the beginning exchanges the starts -/
theorem trd_cons {s s' : Nat} (hs : s' % 2 = (s + 1) % 2) {ps : List Int} (hp : ps.Pairwise (· < ·)) (h0 : ∀ b ∈ ps, 0 ≤ b) : trd s' (0 :: ps.map (· + 1)) = trd s ps := by
  have hP := places_of hp h0
  have hw : ∀ j (hj : j < ps.length), ps[j] ≠ (j : Int) → wt s' (ps[j] + 1) = wt s ps[j] := fun j hj hne => by
    have := hP.ge j hj
    have h2 : (j : Int) ≤ ps.getD j 0 := this
    rw [getD_at hj] at h2
    unfold wt
    by_cases e : (ps[j] + s) % 2 = 1
    · rw [if_pos (.inr (by omega)), if_pos (.inr e)]
    · rw [if_neg (by rintro (q | q); omega; omega), if_neg (by rintro (q | q); omega; omega)]
  have h3 : ∀ v, trd s' (0 :: ps.map (· + 1)) ≤ v ↔ trd s ps ≤ v := fun v => by
    rw [trd_le, trd_le]
    constructor
    · rintro ⟨hv, q⟩
      refine ⟨hv, fun j hj hne => ?_⟩
      have := q (j + 1) (by simpa using hj) (by
        rw [List.getElem_cons_succ, List.getElem_map]
        omega)
      rw [List.getElem_cons_succ, List.getElem_map] at this
      have hl : (0 :: ps.map (· + 1)).length = ps.length + 1 := by simp
      unfold dly at *
      rw [hw j hj hne] at this
      omega
    · rintro ⟨hv, q⟩
      refine ⟨hv, fun j hj hne => ?_⟩
      cases j with
      | zero => exact absurd rfl hne
      | succ j =>
        rw [List.getElem_cons_succ, List.getElem_map] at *
        have hj' : j < ps.length := by simpa using hj
        have hne' : ps[j] ≠ (j : Int) := fun e => hne (by rw [e]; rfl)
        have := q j hj' hne'
        have hl : (0 :: ps.map (· + 1)).length = ps.length + 1 := by simp
        unfold dly at *
        rw [hw j hj' hne']
        omega
  have := (h3 (trd s ps)).mpr (Int.le_refl _)
  have := (h3 (trd s' (0 :: ps.map (· + 1)))).mp (Int.le_refl _)
  omega
theorem need_cons {s s' : Nat} (hs : s' % 2 = (s + 1) % 2) {row : List Int} {z : Int} (h : ∀ x ∈ row, z < x) : need s' (z :: row) = need s row := by
  have h1 : ∀ t, z ≤ t → trd s' (ltF t 0 (z :: row)) = trd s (ltF t 0 row) := fun t ht => by
    have e : ltF t 0 (z :: row) = 0 :: (ltF t 0 row).map (· + 1) := by
      show (if z ≤ t then _ else _) = _
      rw [if_pos ht, ltF_map_succ]; rfl
    rw [e]
    exact trd_cons hs (ltF_asc t row 0) fun b hb => by have := ltF_bd t row 0 b hb; omega
  have h3 : ∀ v, need s' (z :: row) ≤ v ↔ need s row ≤ v := fun v => by
    rw [need_le, need_le]
    constructor
    · rintro ⟨h0, q⟩
      exact ⟨h0, fun t ht => by rw [← h1 t (by have := h t ht; omega)]; exact q t (List.mem_cons_of_mem _ ht)⟩
    · rintro ⟨h0, q⟩
      refine ⟨h0, fun t ht => ?_⟩
      rcases List.mem_cons.mp ht with e | e
      · subst e
        rw [h1 t (Int.le_refl _), lt_none _ _ h]
        exact h0
      · rw [h1 t (by have := h t e; omega)]
        exact q t e
  have := (h3 (need s row)).mpr (Int.le_refl _)
  have := (h3 (need s' (z :: row))).mp (Int.le_refl _)
  omega
end MX

namespace LW
open PySem PySem.Spec L2 KX DX MX
open PyProof.Rows hiding St
def plainD : PyData → Bool
  | .int _ => true
  | _ => false
def inRowD (row : List Int) : PyData → Bool
  | .int i => decide (i ∈ row)
  | _ => false
def thrD (row : List Int) : PyData → Bool
  | .int i => decide (i ∈ thr row)
  | _ => false
def Sis_plain_integer : DF := fun as k => ∃ d, as = [.pub d] ∧ k (.pub (.bool (plainD d)))
def Sis_in_row : DF := fun as k => ∃ (row : List Int) (d : PyData), as = [.pub (tupI row), .pub d] ∧ k (.pub (.bool (inRowD row d)))
def Sis_threshold : DF := fun as k => ∃ (row : List Int) (d : PyData), as = [.pub (tupI row), .pub d] ∧ row.Nodup ∧ k (.pub (.bool (thrD row d)))
def Slight_places : DF := fun as k => ∃ (row : List Int) (t : Int), as = [.pub (tupI row), .pub (.int t)] ∧ row.Nodup ∧ row.length ≤ 30 ∧ t ∈ thr row ∧ k (.pub (tupI (ltF t 0 row)))
abbrev wis_plain_integer : DS := (sRet (xAnd (x1 (fIsi isIntD) (xV 0)) (xNot (x1 (fIsi isBoolD) (xV 0)))))
abbrev wis_in_row : DS := (sRet (xAnd (xCall Sis_plain_integer (aC (xP (xV 1)) aN)) (x2 oInD (xV 1) (xV 0))))
abbrev wis_threshold : DS := (sRet (xAnd (xCall Sis_in_row (aC (xP (xV 0)) (aC (xP (xV 1)) aN))) (x2 oNe (xV 1) (x1 fMax (xV 0)))))
abbrev wlight_places : DS := (sSeq (sIf (tNot' (tV (xCall Sis_threshold (aC (xP (xV 0)) (aC (xP (xV 1)) aN)))))
  sNever
  sNx)
  (sRet (x1 fTuple (xPs [1] (xLc [2, 3] (iE (xV 0)) (gT [gN 2, gN 3]) (tV (x2 oLe (xV 3) (xV 1))) (xV 2))))))
theorem len_is_plain_integer : ∀ as k, Sis_plain_integer as k → as.length = 1 := by rintro _ k ⟨d, rfl, _⟩; rfl
theorem dd_is_plain_integer : ∀ as k, Sis_plain_integer as k → wis_plain_integer { nx := fun _ => k (.pub .none), rt := k } (as ++ List.replicate (1 - as.length) .emp) := by
  rintro _ k ⟨d, rfl, q⟩
  cases d <;> simp [isIntD, isBoolD] <;> exact q
theorem len_is_in_row : ∀ as k, Sis_in_row as k → as.length = 2 := by rintro _ k ⟨r, d, rfl, _⟩; rfl
theorem dd_is_in_row : ∀ as k, Sis_in_row as k → wis_in_row { nx := fun _ => k (.pub .none), rt := k } (as ++ List.replicate (2 - as.length) .emp) := by
  rintro _ k ⟨row, d, rfl, q⟩
  simp [tupI]
  refine ⟨d, rfl, ?_⟩
  cases d with
  | int i =>
    simp [plainD, inD_ints]
    exact q
  | _ => simp [plainD]; exact q
theorem thr_max {row : List Int} (hn : row.Nodup) {i : Int} (hi : i ∈ row) : decide (i ∈ thr row) = !decide (i = mxI row) := by
  have hne := List.ne_nil_of_mem hi
  rw [Bool.eq_iff_iff, decide_eq_true_eq, Bool.not_eq_true', decide_eq_false_iff_not, thr_iff hn]
  constructor
  · rintro ⟨_, z, hz, hlt⟩ h
    have := mxI_ge z hz
    omega
  · intro h
    refine ⟨hi, mxI row, mxI_mem hne, ?_⟩
    have := mxI_ge i hi
    omega
theorem len_is_threshold : ∀ as k, Sis_threshold as k → as.length = 2 := by rintro _ k ⟨r, d, rfl, _⟩; rfl
theorem dd_is_threshold : ∀ as k, Sis_threshold as k → wis_threshold { nx := fun _ => k (.pub .none), rt := k } (as ++ List.replicate (2 - as.length) .emp) := by
  rintro _ k ⟨row, d, rfl, hn, q⟩
  simp
  refine ⟨row, d, rfl, ?_⟩
  cases d with
  | int i =>
    by_cases h : i ∈ row
    · have e : inRowD row (.int i) = true := decide_eq_true h
      rw [e]
      simp [tupI, List.ne_nil_of_mem h]
      have q : k (.pub (.bool (decide (i ∈ thr row)))) := q
      rw [thr_max hn h] at q
      rw [Bool.beq_eq_decide_eq]
      exact q
    · have e : inRowD row (.int i) = false := decide_eq_false h
      rw [e]
      have q : k (.pub (.bool (decide (i ∈ thr row)))) := q
      rw [decide_eq_false fun z => h ((thr_iff hn i).mp z).1] at q
      simp
      exact q
  | _ => simp [inRowD]; exact q
/-- the light places, as they are found -/
theorem ltF_eq (t : Int) : ∀ (row : List Int) (n : Nat), ltF t n row = ((row.zipIdx n).filter fun p => decide (p.1 ≤ t)).map fun p => (p.2 : Int)
  | [], n => rfl
  | x :: xs, n => by
    unfold ltF
    rw [List.zipIdx_cons, ltF_eq t xs (n + 1)]
    by_cases h : x ≤ t
    · rw [if_pos h, List.filter_cons_of_pos (by simpa using h)]; rfl
    · rw [if_neg h, List.filter_cons_of_neg (by simpa using h)]
theorem len_light_places : ∀ as k, Slight_places as k → as.length = 2 := by rintro _ k ⟨r, d, rfl, _⟩; rfl
theorem dd_light_places : ∀ as k, Slight_places as k → wlight_places { nx := fun _ => k (.pub .none), rt := k } (as ++ List.replicate (4 - as.length) .emp) := by
  rintro _ k ⟨row, t, rfl, hn, hl, ht, q⟩
  simp
  refine ⟨row, .int t, rfl, hn, ?_⟩
  have e : thrD row (.int t) = true := decide_eq_true ht
  rw [e]
  simp [tupI, DX.pairs_len]
  refine ⟨by omega, ?_⟩
  rw [pairs_eq]
  refine lcGo_map (fun p : Int × Nat => .tuple [.int (p.2 : Int), .int p.1]) (fun p => [.pub (.tuple (row.map .int)), .pub (.int t), .pub (.int (p.2 : Int)), .pub (.int p.1)]) (fun p => decide (p.1 ≤ t)) (fun p => .int (p.2 : Int)) (row.zipIdx 0) [] ?_ ?_ ?_ ?_
  · intro x _ k h; simpa using h
  · intro x _ k h; simpa using h
  · intro x _ _ k h; simpa using h
  · rw [ltF_eq] at q
    simpa [tupI, Function.comp_def] using q
/-! delays -/
def Swait_of : DF := fun as k => ∃ (p : Int) (s : Nat), as = [.pub (.int p), .pub (.int s)] ∧ k (.pub (.int (wt s p)))
def seqI (d : PyData) (ps : List Int) : Prop := d = tupI ps ∨ d = .list (ps.map .int)
def dlyD (s m : Nat) (p : Int × Nat) : PyData := if p.1 = (p.2 : Int) then .none else .int (dly s m p.2 p.1)
def dlyL (s : Nat) (ps : List Int) : List PyData := (ps.zipIdx 0).map (dlyD s ps.length)
def Slight_delays : DF := fun as k => ∃ (d : PyData) (ps : List Int) (s : Nat), as = [.pub d, .pub (.int s)] ∧ seqI d ps ∧ ps.length ≤ 30 ∧ k (.pub (.tuple (dlyL s ps)))
def Sgreatest_delay : DF := fun as k => ∃ (d : PyData) (ps : List Int) (s : Nat), as = [.pub d, .pub (.int s)] ∧ seqI d ps ∧ ps.length ≤ 30 ∧ (∀ (j : Nat) p, ps[j]? = some p → (j : Int) ≤ p) ∧ k (.pub (.int (trd s ps)))
def Sthreshold_rounds : DF := fun as k => ∃ (row : List Int) (s : Nat) (t : Int), as = [.pub (tupI row), .pub (.int s), .pub (.int t)] ∧ row.Nodup ∧ row.length ≤ 30 ∧ t ∈ thr row ∧ k (.pub (.int (trd s (ltF t 0 row))))
def tblD (s : Nat) (row : List Int) (t : Int) : PyData := .tuple [.int t, .int (trd s (ltF t 0 row))]
def Sthreshold_table : DF := fun as k => ∃ (row : List Int) (s : Nat), as = [.pub (tupI row), .pub (.int s)] ∧ row.Nodup ∧ row.length ≤ 30 ∧ k (.pub (.tuple ((thr row).map (tblD s row))))
def Sneeded_rounds : DF := fun as k => ∃ (row : List Int) (s : Nat), as = [.pub (tupI row), .pub (.int s)] ∧ row.Nodup ∧ row.length ≤ 30 ∧ k (.pub (.int (need s row)))
abbrev wwait_of : DS := (sRet (xIf (tOr' (tV (x2 oEq (xV 0) (xC (.int 0)))) (tV (x2 oEq (x2 oMod (x2 oAdd (xV 0) (xV 1)) (xC (.int 2))) (xC (.int 1))))) (xC (.int 0)) (xC (.int 1))))
abbrev wlight_delays : DS := (sSeq (sAsg (x2 oSub (x1 fLen (xV 0)) (xC (.int 1))) (gN 2))
  (sSeq (sAsg (xLst aN) (gN 3))
  (sSeq (sFor (iE (xV 0)) (gT [(gN 4), (gN 5)])
  (sIf (tV (x2 oEq (xV 5) (xV 4)))
  (sExp (lAppend 3 (xC .none)))
  (sExp (lAppend 3 (x2 oSub (x2 oAdd (x2 oAdd (x2 oSub (xV 5) (xV 4)) (xCall Swait_of (aC (xP (xV 5)) (aC (xP (xV 1)) aN)))) (xV 2)) (xV 4))))))
  (sRet (x1 fTuple (xV 3))))))
abbrev wgreatest_delay : DS := (sRet (x1 (fDefMax 0) (xPs [] (xLc [2] (iX (xCall Slight_delays (aC (xP (xV 0)) (aC (xP (xV 1)) aN)))) (gN 2) (tV (x2 oIsNot (xV 2) (xC .none))) (xV 2)))))
abbrev wthreshold_rounds : DS := (sRet (xCall Sgreatest_delay (aC (xP (xCall Slight_places (aC (xP (xV 0)) (aC (xP (xV 2)) aN)))) (aC (xP (xV 1)) aN))))
abbrev wthreshold_table : DS := (sRet (x1 fTuple (xPs [0, 1] (xLc [2] (iX (xCall Sthresholds (aC (xP (xV 0)) aN))) (gN 2) tYes' (xTup (aC (xP (xV 2)) (aC (xP (xCall Sthreshold_rounds (aC (xP (xV 0)) (aC (xP (xV 1)) (aC (xP (xV 2)) aN))))) aN)))))))
abbrev wneeded_rounds : DS := (sRet (x1 (fDefMax 0) (xPs [] (xLc [2, 3] (iX (xCall Sthreshold_table (aC (xP (xV 0)) (aC (xP (xV 1)) aN)))) (gT [gN 2, gN 3]) tYes' (xV 3)))))
theorem len_wait_of : ∀ as k, Swait_of as k → as.length = 2 := by rintro _ k ⟨r, d, rfl, _⟩; rfl
theorem dd_wait_of : ∀ as k, Swait_of as k → wwait_of { nx := fun _ => k (.pub .none), rt := k } (as ++ List.replicate (2 - as.length) .emp) := by
  rintro _ k ⟨p, s, rfl, q⟩
  unfold wt at q
  by_cases h1 : p = 0
  · rw [if_pos (.inl h1)] at q
    simp [h1]; exact q
  · have b1 : (p == 0) = false := by simpa using h1
    by_cases h2 : (p + s) % 2 = 1
    · rw [if_pos (.inr h2)] at q
      have b2 : ((p + s) % 2 == 1) = true := by simpa using h2
      simp [b1, b2]; exact q
    · rw [if_neg (fun z => z.elim h1 h2)] at q
      have b2 : ((p + s) % 2 == 1) = false := by simpa using h2
      simp [b1, b2]; exact q
end LW

namespace LW
open PySem PySem.Spec L2 KX DX MX
open PyProof.Rows hiding St
theorem len_light_delays : ∀ as k, Slight_delays as k → as.length = 2 := by rintro _ k ⟨r, d, s, rfl, _⟩; rfl
theorem dd_light_delays : ∀ as k, Slight_delays as k → wlight_delays { nx := fun _ => k (.pub .none), rt := k } (as ++ List.replicate (6 - as.length) .emp) := by
  rintro _ k ⟨d, ps, s, rfl, hd, hl, q⟩
  have key : ∀ x y : Sl, forGo (gT [gN 4, gN 5]) (sIf (tV (x2 oEq (xV 5) (xV 4))) (sExp (lAppend 3 (xC .none))) (sExp (lAppend 3 (x2 oSub (x2 oAdd (x2 oAdd (x2 oSub (xV 5) (xV 4)) (xCall Swait_of (aC (xP (xV 5)) (aC (xP (xV 1)) aN)))) (xV 2)) (xV 4)))))
      { nx := sRet (x1 fTuple (xV 3)) { nx := fun _ => k (.pub .none), rt := k }, rt := k } (pairs 0 (ps.map .int)) [.pub d, .pub (.int s), .pub (.int ((ps.length : Int) - 1)), .own [], x, y] := by
    intro x y
    refine forGo_en PyData.int ps (fun i δ => ∃ (x y : Sl), δ = [.pub d, .pub (.int s), .pub (.int ((ps.length : Int) - 1)), .own ((dlyL s ps).take i), x, y]) ?_ ?_ _ ⟨x, y, by simp⟩
    · rintro i δ N hi hN ⟨x, y, rfl⟩
      have hlen : (dlyL s ps).length = ps.length := by simp [dlyL]
      have ht : (dlyL s ps).take (i + 1) = (dlyL s ps).take i ++ [dlyD s ps.length (ps[i], i)] := by
        have hx : i < (dlyL s ps).length := by simpa [dlyL] using hi
        rw [List.take_succ_eq_append_getElem hx]
        simp [dlyL]
      simp
      refine cnd_of (fun h => ?_) (fun h => ?_)
      · have h : ps[i] = (i : Int) := by simpa using h
        simp
        refine ⟨by omega, hN _ ⟨.pub (.int (i : Int)), .pub (.int ps[i]), ?_⟩⟩
        rw [ht]
        unfold dlyD
        rw [if_pos h]
      · have h : ¬ ps[i] = (i : Int) := by simpa using h
        simp only [sExp_s, lAppend_s, List.getElem?_cons_succ, List.getElem?_cons_zero, withO_some, x2_s, xV_s, varK_pub, xCall_s, aC_s, xP_s, aN_s, pubK_pub, rd_pub, withD_some, oSub_i, oAdd_i, List.all_cons, okArg_pub, Bool.and_self, List.all_nil, true_and]
        refine ⟨ps[i], s, rfl, ?_⟩
        simp
        refine ⟨by omega, hN _ ⟨.pub (.int (i : Int)), .pub (.int ps[i]), ?_⟩⟩
        rw [ht]
        unfold dlyD dly
        rw [if_neg h]
        have : ps[i] - (i : Int) + wt s ps[i] + ((ps.length : Int) - 1) - (i : Int) = ps[i] - (i : Int) + wt s ps[i] + ((ps.length : Int) - 1 - (i : Int)) := by omega
        rw [this]
    · rintro δ ⟨x, y, rfl⟩
      have e : (dlyL s ps).take ps.length = dlyL s ps := List.take_of_length_le (by simp [dlyL])
      rw [e]
      simpa using q
  rcases hd with rfl | rfl
  · simp
    exact key _ _
  · simp
    exact key _ _
end LW

namespace LW
open PySem PySem.Spec L2 KX DX MX
open PyProof.Rows hiding St
theorem len_greatest_delay : ∀ as k, Sgreatest_delay as k → as.length = 2 := by rintro _ k ⟨r, d, s, rfl, _⟩; rfl
theorem dls_eq (s m : Nat) : ∀ (ps : List Int) (j : Nat), (((ps.zipIdx j).filter fun p => !decide (p.1 = (p.2 : Int))).map fun p => dly s m p.2 p.1) = dls s m j ps
  | [], j => rfl
  | p :: ps, j => by
    rw [List.zipIdx_cons]
    show _ = (if p = (j : Int) then dls s m (j + 1) ps else dly s m j p :: dls s m (j + 1) ps)
    by_cases h : p = (j : Int)
    · rw [if_pos h, List.filter_cons_of_neg (by simpa using h), dls_eq]
    · rw [if_neg h, List.filter_cons_of_pos (by simpa using h), List.map_cons, dls_eq]
theorem mxD_gmax : ∀ (l : List Int), (∀ x ∈ l, 0 ≤ x) → mxD 0 l = gmax l
  | [], _ => rfl
  | x :: l, h => by
    have := h x List.mem_cons_self
    show l.foldl max x = l.foldl max (max 0 x)
    rw [Int.max_eq_right this]
theorem wt_nn (s : Nat) (p : Int) : 0 ≤ wt s p := by unfold wt; split <;> omega
theorem dls_nn {s : Nat} {ps : List Int} (h : ∀ (j : Nat) p, ps[j]? = some p → (j : Int) ≤ p) : ∀ x ∈ dls s ps.length 0 ps, 0 ≤ x := by
  intro x hx
  obtain ⟨i, hi, _, rfl⟩ := (mem_dls s ps.length ps 0 x).mp hx
  have h1 := h i ps[i] (List.getElem?_eq_getElem hi)
  have h2 := wt_nn s ps[i]
  unfold dly
  simp only [Nat.zero_add]
  omega
theorem dd_greatest_delay : ∀ as k, Sgreatest_delay as k → wgreatest_delay { nx := fun _ => k (.pub .none), rt := k } (as ++ List.replicate (3 - as.length) .emp) := by
  rintro _ k ⟨d, ps, s, rfl, hd, hl, hp, q⟩
  simp
  refine ⟨d, ps, s, rfl, hd, hl, ?_⟩
  simp
  refine ⟨by simp [dlyL]; omega, ?_⟩
  have e : dlyL s ps = (ps.zipIdx 0).map (dlyD s ps.length) := rfl
  rw [e]
  refine lcGo_map (dlyD s ps.length) (fun p => [.pub d, .pub (.int s), .pub (dlyD s ps.length p)]) (fun p => !decide (p.1 = (p.2 : Int))) (fun p => .int (dly s ps.length p.2 p.1)) (ps.zipIdx 0) [] ?_ ?_ ?_ ?_
  · intro x _ k h; simpa using h
  · intro x _ k h
    by_cases h0 : x.1 = (x.2 : Int)
    · have e : dlyD s ps.length x = .none := by unfold dlyD; rw [if_pos h0]
      simp only [e] at h ⊢
      rw [decide_eq_true h0] at h
      simpa using h
    · have e : dlyD s ps.length x = .int (dly s ps.length x.2 x.1) := by unfold dlyD; rw [if_neg h0]
      simp only [e] at h ⊢
      rw [decide_eq_false h0] at h
      simpa using h
  · intro x _ hx k h
    have : dlyD s ps.length x = .int (dly s ps.length x.2 x.1) := by
      unfold dlyD; rw [if_neg (by simpa using hx)]
    simp [this]
    rw [this] at h
    exact h
  · have e2 : ((ps.zipIdx 0).filter fun p => !decide (p.1 = (p.2 : Int))).map (fun p => PyData.int (dly s ps.length p.2 p.1)) = (dls s ps.length 0 ps).map .int := by
      rw [← dls_eq, List.map_map]; rfl
    rw [e2]
    simp
    rw [mxD_gmax _ (dls_nn hp)]
    exact q
theorem ltF_get {t : Int} {row : List Int} {j : Nat} {p : Int} (h : (ltF t 0 row)[j]? = some p) : (j : Int) ≤ p := by
  obtain ⟨hj, rfl⟩ := List.getElem?_eq_some_iff.mp h
  have := (places_lt row t).ge j hj
  rwa [List.getD_eq_getElem?_getD, List.getElem?_eq_getElem hj] at this
theorem ltF_len_le (t : Int) (row : List Int) : (ltF t 0 row).length ≤ row.length := by
  rw [ltF_eq, List.length_map]
  have := List.length_filter_le (fun p : Int × Nat => decide (p.1 ≤ t)) (row.zipIdx 0)
  simpa using this
theorem len_threshold_rounds : ∀ as k, Sthreshold_rounds as k → as.length = 3 := by rintro _ k ⟨r, d, s, rfl, _⟩; rfl
theorem dd_threshold_rounds : ∀ as k, Sthreshold_rounds as k → wthreshold_rounds { nx := fun _ => k (.pub .none), rt := k } (as ++ List.replicate (3 - as.length) .emp) := by
  rintro _ k ⟨row, s, t, rfl, hn, hl, ht, q⟩
  simp
  refine ⟨row, t, rfl, hn, hl, ht, ?_⟩
  simp
  refine ⟨_, ltF t 0 row, s, rfl, .inl rfl, Nat.le_trans (ltF_len_le t row) hl, fun j p h => ltF_get h, ?_⟩
  simpa using q
theorem len_threshold_table : ∀ as k, Sthreshold_table as k → as.length = 2 := by rintro _ k ⟨r, d, rfl, _⟩; rfl
theorem thr_len (row : List Int) : (thr row).length = row.length - 1 := by
  unfold thr; rw [List.length_dropLast, (asc_perm row).length_eq]
theorem dd_threshold_table : ∀ as k, Sthreshold_table as k → wthreshold_table { nx := fun _ => k (.pub .none), rt := k } (as ++ List.replicate (3 - as.length) .emp) := by
  rintro _ k ⟨row, s, rfl, hn, hl, q⟩
  simp
  refine ⟨row, rfl, hl, ?_⟩
  simp
  refine ⟨by rw [thr_len]; omega, ?_⟩
  refine lcGo_all PyData.int (fun t => [.pub (tupI row), .pub (.int s), .pub (.int t)]) (tblD s row) (thr row) ?_ ?_ ?_
  · intro x _ k h; simpa using h
  · intro x hx k h
    simp
    refine ⟨row, s, x, rfl, hn, hl, hx, ?_⟩
    simpa [tblD] using h
  · simpa using q
theorem len_needed_rounds : ∀ as k, Sneeded_rounds as k → as.length = 2 := by rintro _ k ⟨r, d, rfl, _⟩; rfl
theorem need_thr {s : Nat} {row : List Int} (hn : row.Nodup) : mxD 0 ((thr row).map fun t => trd s (ltF t 0 row)) = need s row := by
  rw [mxD_gmax _ (fun x hx => by obtain ⟨t, _, rfl⟩ := List.mem_map.mp hx; exact gmax_nn _)]
  have h : ∀ z, gmax ((thr row).map fun t => trd s (ltF t 0 row)) ≤ z ↔ need s row ≤ z := fun z => by
    rw [gmax_le, need_le]
    constructor
    · rintro ⟨h0, h1⟩
      refine ⟨h0, fun t ht => ?_⟩
      by_cases q : t ∈ thr row
      · exact h1 _ (List.mem_map.mpr ⟨t, q, rfl⟩)
      · have : ∀ x ∈ row, x ≤ t := fun x hx => by
          rcases Int.lt_or_le t x with z | z
          · exact absurd ((thr_iff hn t).mpr ⟨ht, x, hx, z⟩) q
          · exact z
        rw [ltF_full this, trd_first]; exact h0
    · rintro ⟨h0, h1⟩
      refine ⟨h0, fun x hx => ?_⟩
      obtain ⟨t, ht, rfl⟩ := List.mem_map.mp hx
      exact h1 t ((thr_iff hn t).mp ht).1
  exact Int.le_antisymm ((h _).mpr (Int.le_refl _)) ((h _).mp (Int.le_refl _))
theorem dd_needed_rounds : ∀ as k, Sneeded_rounds as k → wneeded_rounds { nx := fun _ => k (.pub .none), rt := k } (as ++ List.replicate (4 - as.length) .emp) := by
  rintro _ k ⟨row, s, rfl, hn, hl, q⟩
  simp
  refine ⟨row, s, rfl, hn, hl, ?_⟩
  simp
  refine ⟨by rw [thr_len]; omega, ?_⟩
  refine lcGo_all (tblD s row) (fun t => [.pub (tupI row), .pub (.int s), .pub (.int t), .pub (.int (trd s (ltF t 0 row)))]) (fun t => .int (trd s (ltF t 0 row))) (thr row) ?_ ?_ ?_
  · intro x _ k h; simpa [tblD] using h
  · intro x hx k h; simpa using h
  · have e : (thr row).map (fun t => PyData.int (trd s (ltF t 0 row))) = ((thr row).map fun t => trd s (ltF t 0 row)).map .int := by rw [List.map_map]; rfl
    rw [e]
    simp only [x1_s, rd_own, withD_some, fDefMax_l, intsOf_map, sRet_s, retOf_pub]
    rw [need_thr hn]
    exact q
end LW

namespace KX
open PySem PySem.Spec L2 DX
open PyProof.Rows hiding St
/-! the second family's store -/
def su2 (c : Addr) (m n : Int) : List (Key × V) := [(.inr "large", .ref c), (.inr "mixed", .int m), (.inr "count", .int n)]
theorem s2a : ("large" : Str) ≠ "mixed" := by decide +kernel
theorem s2b : ("large" : Str) ≠ "count" := by decide +kernel
theorem s2c : ("mixed" : Str) ≠ "count" := by decide +kernel
theorem su2_large (c : Addr) (t b : Int) : valV (su2 c t b) (.inr "large") = some (.ref c) := by
  unfold valV su2; simp
theorem su2_mixed (c : Addr) (t b : Int) : valV (su2 c t b) (.inr "mixed") = some (.int t) := by
  unfold valV su2; simp [s2a]
theorem su2_count (c : Addr) (t b : Int) : valV (su2 c t b) (.inr "count") = some (.int b) := by
  unfold valV su2; simp [s2b, s2c]
theorem su2_putM (c : Addr) (t b t' : Int) : putK (su2 c t b) (.inr "mixed") (.int t') = su2 c t' b := by
  unfold su2; simp only [putK]; simp [s2a, s2c.symm]
theorem su2_putC (c : Addr) (t b b' : Int) : putK (su2 c t b) (.inr "count") (.int b') = su2 c t b' := by
  unfold su2; simp only [putK]; simp [s2b, s2c]
theorem su2_make (c : Addr) (t b : Int) : mergeK [] (su2 c t b) = su2 c t b := by
  unfold su2 mergeK; simp only [List.foldl, putK]; simp [s2a, s2b, s2c]
theorem su2_setM {H : Hp} {d c : Addr} {t b t' : Int} (hd : H d = some (.dK (su2 c t b))) : DPut H d (.str "mixed") (.int t') (upd H d (.dK (su2 c t' b))) := by
  have h := DPut.k (k := .inr "mixed") (v := .int t') hd (show 3 < sizeLine by decide)
  rw [su2_putM] at h
  exact h
theorem su2_setC {H : Hp} {d c : Addr} {t b b' : Int} (hd : H d = some (.dK (su2 c t b))) : DPut H d (.str "count") (.int b') (upd H d (.dK (su2 c t b'))) := by
  have h := DPut.k (k := .inr "count") (v := .int b') hd (show 3 < sizeLine by decide)
  rw [su2_putC] at h
  exact h
structure Sup2 (H : Hp) (d c : Addr) : Prop where
  ex : ∃ (ls : List Int) (m n : Int), H d = some (.dK (su2 c m n)) ∧ H c = some (.lst (ls.map V.int)) ∧ ls.length ≤ 63 ∧ 0 ≤ m ∧ m < 2147483647
theorem Sup2.ne {H : Hp} {d c : Addr} (h : Sup2 H d c) : d ≠ c := by
  obtain ⟨_, _, _, h1, h2, _⟩ := h.ex
  exact ne_of h1 h2 (fun z => nomatch z)
def fam2 : Fam where
  ok H d c := ok1 Sup2 H d c
  frame h e1 e2 := ok1_frame (fun {H H' d c} h e1 e2 => by
    obtain ⟨cells, t, b, h1, h2, h3⟩ := h.ex
    exact ⟨cells, t, b, e1.trans h1, e2.trans h2, h3⟩) h e1 e2
  liveD h := ok1_liveD (fun h => by obtain ⟨cs, t, b, h1, _⟩ := h.ex; rw [h1]; exact nofun) h
  liveC h := ok1_liveC (fun h => by obtain ⟨cs, t, b, _, h1, _⟩ := h.ex; rw [h1]; exact nofun) h
  triv := True
  le _ _ _ _ := True
  leT _ _ _ _ _ := trivial
  leF _ _ _ := trivial
  leM _ _ := trivial
theorem fam2_c : ∀ H d c, fam2.ok H d c → ∃ c0, c = [c0] := fun H d c h => let ⟨c0, e, _⟩ := ok1_ex h; ⟨c0, e⟩
/-- a draw from any store -/
def spTakeF (F : Fam) : Sp := fun vs H Q _ => ∃ (d c : Addr) (m : Int), vs = [.ref d, .int m] ∧ F.ok H d [c] ∧ 0 < m ∧ m < 2 ^ 62 ∧ ∀ (r : Int) (H' : Hp), 0 ≤ r → r < m → F.ok H' d [c] → SameX H H' d c → Q (.int r) H'
theorem ext_F {F : Fam} {C : Ct} {H U H' : Hp} {d c : Addr} (e2 : C.F = F) (hR : C.R = some (d, [c])) (w : Wd C H U) (S : F.ok H' d [c]) (x : SameX H H' d c) : Ext C H U H' U := by
  refine ⟨fun a o hr e => x a o (fun z => hr ⟨d, [c], hR, .inl z⟩) (fun z => hr ⟨d, [c], hR, .inr (by rw [z]; exact List.mem_cons_self)⟩) e, Same.refl _, fun a o e => ?_, fun a o e => .inl e, fun d' c' e => ?_⟩
  · have nr : ¬ Rm C.R a := fun z => by rw [w.rv a z] at e; cases e
    exact x a o (fun z => nr ⟨d, [c], hR, .inl z⟩) (fun z => nr ⟨d, [c], hR, .inr (by rw [z]; exact List.mem_cons_self)⟩) (w.sub _ _ e)
  · rw [hR] at e; cases e; rw [e2]; exact S
theorem takeF_D {P : Program} {w : World} {K : PySem.W.Frag} {mg : Str → Option Value} {base : Heap} {k : Nat} {f : Addr} {fd : FuncData} {ps : List Str} {F : Fam} (hF : ∀ H d c, F.ok H d c → ∃ c0, c = [c0]) (G : FnOk P w K mg base CX0 k f fd ps (spTakeF F)) : FnOkG P w K mg base CX0 k f fd ps (spD F K S_law_take) := DX.FnOkG.imp (FnOk.toG G) fun vs H Q E ⟨C, U, as, kk, e1, e2, e3, e4, wd, ar, ⟨m, ha, h0, h1, hk⟩, q⟩ => by
  subst ha
  cases ar with
  | cons a1 ar =>
    cases ar with
    | cons a2 ar =>
      cases ar
      obtain ⟨d, c, hR, rfl⟩ := a1
      cases a2
      have ho := wd.rok d c hR
      rw [e2] at ho
      obtain ⟨c, rfl⟩ := hF _ _ _ ho
      refine ⟨d, c, m, rfl, ho, h0, h1, fun r H' hr0 hr1 S' sx => ?_⟩
      exact q _ (hk r hr0 hr1) _ H' U (ext_F e2 hR wd S' sx) (show Dd _ _ _ _ from .int r)
abbrev S_law_deal : DF := S_law_take
end KX

namespace LW
open PySem PySem.Spec L2 KX DX MX
open PyProof.Rows hiding St
def S_law_keys : DF := fun as k => ∃ n : Nat, as = [.sup, .pub (.int (n : Int))] ∧ 1 ≤ n ∧ n ≤ 30 ∧ ∀ ks : List Int, ks.length = n → KeysOk ks → k (.own (ks.map .int))
abbrev w_law_keys : DS := (sSeq (sAsg (x2 oIx (xLst (aC (xP (xC (.int 1))) (aC (xP (xC (.int 2))) (aC (xP (x2 oPow (xC (.int 10)) (xC (.int 6)))) (aC (xP (x2 oPow (xC (.int 10)) (xC (.int 10)))) aN))))) (xCall S_law_deal (aC (xP (xV 0)) (aC (xP (xC (.int 4))) aN)))) (gN 2))
  (sSeq (sAsg (x2 oIx (xLst (aC (xP (xC (.int 0))) (aC (xP (xC (.int 3))) (aC (xP (x2 oSub (x2 oPow (xC (.int 10)) (xC (.int 12))) (x2 oMul (xV 2) (xV 1)))) aN)))) (xCall S_law_deal (aC (xP (xV 0)) (aC (xP (xC (.int 3))) aN)))) (gN 3))
  (sRet (xPs [3, 0, 2] (xLc [4] (iR1 (aC (xV 1) aN)) (gN 4) tYes' (x2 oAdd (x2 oAdd (xV 3) (x2 oMul (xV 2) (xV 4))) (xCall S_law_deal (aC (xP (xV 0)) (aC (xP (x2 fMin2 (xV 2) (xC (.int 1000)))) aN)))))))))
theorem len__law_keys : ∀ as k, S_law_keys as k → as.length = 2 := by rintro _ k ⟨n, rfl, _⟩; rfl
theorem cpow {a b : Int} (h0 : 0 ≤ b) (h1 : b ≤ 1000) (h2 : a.natAbs < 2 ^ 64) : CPow a b := ⟨h0, by omega, h2⟩
theorem four_at {r : Int} (h0 : 0 ≤ r) (h1 : r < 4) (a b c d : PyData) : atI [a, b, c, d] r = some a ∨ atI [a, b, c, d] r = some b ∨ atI [a, b, c, d] r = some c ∨ atI [a, b, c, d] r = some d := by
  have : r = 0 ∨ r = 1 ∨ r = 2 ∨ r = 3 := by omega
  rcases this with rfl | rfl | rfl | rfl
  · exact .inl rfl
  · exact .inr (.inl rfl)
  · exact .inr (.inr (.inl rfl))
  · exact .inr (.inr (.inr rfl))
theorem three_at {r : Int} (h0 : 0 ≤ r) (h1 : r < 3) (a b c : PyData) : atI [a, b, c] r = some a ∨ atI [a, b, c] r = some b ∨ atI [a, b, c] r = some c := by
  have : r = 0 ∨ r = 1 ∨ r = 2 := by omega
  rcases this with rfl | rfl | rfl
  · exact .inl rfl
  · exact .inr (.inl rfl)
  · exact .inr (.inr rfl)
/-- keys low + gap * i + less than a gap -/
theorem keys_go {k : Sl → Prop} {n : Nat} (hn : n ≤ 30) (q : ∀ ks : List Int, ks.length = n → KeysOk ks → k (.own (ks.map .int))) {gap low : Int} (hg : 1 ≤ gap) (hg2 : gap ≤ 10000000000) (hlow : 0 ≤ low) (hup : low + gap * n ≤ 1000000000003) (hup2 : low + gap * n ≤ 1000000000000 ∨ low ≤ 3) :
    lcGo (gN 4) tYes' (x2 oAdd (x2 oAdd (xV 3) (x2 oMul (xV 2) (xV 4))) (xCall S_law_deal (aC (xP (xV 0)) (aC (xP (x2 fMin2 (xV 2) (xC (.int 1000)))) aN)))) [.sup, .pub (.int (n : Int)), .pub (.int gap), .pub (.int low), .emp] (rngD 0 n) [] fun acc => k (.own acc) := by
  refine lcGo_rng (fun i acc => ∃ ks : List Int, acc = ks.map .int ∧ ks.length = i ∧ ks.Pairwise (· < ·) ∧ ∀ x ∈ ks, low ≤ x ∧ x < low + gap * i) n ?_ ?_ [] ⟨[], rfl, rfl, .nil, fun _ h => nomatch h⟩
  · rintro i acc N hi hN ⟨ks, rfl, hl, hp, hb⟩
    simp
    refine ⟨.inl ⟨by omega, by omega⟩, ?_⟩
    refine ⟨min gap 1000, rfl, by omega, by omega, fun r r0 r1 => ?_⟩
    simp
    have e : gap * ((i + 1 : Nat) : Int) = gap * (i : Int) + gap := by
      rw [show ((i + 1 : Nat) : Int) = (i : Int) + 1 by omega, Int.mul_add, Int.mul_one]
    refine hN _ ⟨ks ++ [low + gap * i + r], by simp, by simp [hl], ?_, ?_⟩
    · refine List.pairwise_append.mpr ⟨hp, List.pairwise_singleton _ _, fun x hx y hy => ?_⟩
      rw [List.mem_singleton] at hy
      have := (hb x hx).2
      omega
    · intro x hx
      rw [e]
      have h0 : 0 ≤ gap * (i : Int) := Int.mul_nonneg (by omega) (by omega)
      rcases List.mem_append.mp hx with hx | hx
      · have := hb x hx; omega
      · rw [List.mem_singleton] at hx; omega
  · rintro acc ⟨ks, rfl, hl, hp, hb⟩
    refine q ks hl ⟨hp, fun x hx => ?_⟩
    have h1 := hb x hx
    have h2 : gap * (n : Int) ≤ 10000000000 * 30 := Int.mul_le_mul hg2 (by omega) (by omega) (by omega)
    constructor
    · omega
    · omega
theorem dd__law_keys : ∀ as k, S_law_keys as k → w_law_keys { nx := fun _ => k (.pub .none), rt := k } (as ++ List.replicate (5 - as.length) .emp) := by
  rintro _ k ⟨n, rfl, h1, h2, q⟩
  simp
  refine ⟨⟨by decide, by decide, by decide⟩, ⟨by decide, by decide, by decide⟩, ?_⟩
  refine ⟨4, rfl, by omega, by omega, fun r r0 r1 => ?_⟩
  obtain ⟨gap, g1, g2, hat⟩ : ∃ g : Int, 1 ≤ g ∧ g ≤ 10000000000 ∧ atI [PyData.int 1, .int 2, .int 1000000, .int 10000000000] r = some (.int g) := by
    rcases four_at r0 r1 (.int 1) (.int 2) (.int 1000000) (.int 10000000000) with h | h | h | h
    · exact ⟨1, by omega, by omega, h⟩
    · exact ⟨2, by omega, by omega, h⟩
    · exact ⟨1000000, by omega, by omega, h⟩
    · exact ⟨10000000000, by omega, by omega, h⟩
  have hm : gap * (n : Int) ≤ 10000000000 * 30 := Int.mul_le_mul g2 (by omega) (by omega) (by omega)
  have hm0 : 0 ≤ gap * (n : Int) := Int.mul_nonneg (by omega) (by omega)
  simp [hat]
  refine ⟨⟨by decide, by decide, by decide⟩, .inl ⟨by omega, by omega⟩, ?_⟩
  refine ⟨3, rfl, by omega, by omega, fun r' r0' r1' => ?_⟩
  obtain ⟨low, l1, l2, l3, hat2⟩ : ∃ l : Int, 0 ≤ l ∧ l + gap * n ≤ 1000000000003 ∧ (l + gap * n ≤ 1000000000000 ∨ l ≤ 3) ∧ atI [PyData.int 0, .int 3, .int (1000000000000 - gap * n)] r' = some (.int l) := by
    rcases three_at r0' r1' (.int 0) (.int 3) (.int (1000000000000 - gap * n)) with h | h | h
    · exact ⟨0, by omega, by omega, by omega, h⟩
    · exact ⟨3, by omega, by omega, by omega, h⟩
    · exact ⟨_, by omega, by omega, by omega, h⟩
  simp [hat2, rng_len]
  refine ⟨i62_of (by omega) (by omega), by omega, ?_⟩
  exact keys_go h2 q g1 g2 l1 l2 l3
/-! a row -/
abbrev w_law_row : DS := (sSeq (sAsg (xCall S_law_keys (aC (xP (xV 0)) (aC (xP (x2 oAdd (xC (.int 1)) (xCall S_law_deal (aC (xP (xV 0)) (aC (xP (xV 1)) aN))))) aN))) (gN 2))
  (sSeq (sAsg (xCall S_law_deal (aC (xP (xV 0)) (aC (xP (xC (.int 5))) aN))) (gN 3))
  (sSeq (sIf (tV (x2 oEq (xV 3) (xC (.int 1))))
  (sRet (x1 fTuple (xStp (xV 2) pN pN (pS (x1 oNeg (xC (.int 1)))))))
  sNx)
  (sSeq (sIf (tV (x2 oEq (xV 3) (xC (.int 2))))
  (sSeq (sFor (iR1 (aC (xC (.int 3)) aN)) (gN 4)
  (sSeq (sAsg (xCall S_law_deal (aC (xP (xV 0)) (aC (xP (x1 fLen (xV 2))) aN))) (gN 5))
  (sAsg (x2 oAdd (x2 oAdd (xSl (xV 2) pN (pS (xV 5))) (xStp (xSl (xV 2) (pS (xV 5)) (pS (x2 oAdd (xV 5) (xC (.int 2))))) pN pN (pS (x1 oNeg (xC (.int 1)))))) (xSl (xV 2) (pS (x2 oAdd (xV 5) (xC (.int 2)))) pN)) (gN 2))))
  (sRet (x1 fTuple (xV 2))))
  sNx)
  (sSeq (sIf (tV (x2 oEq (xV 3) (xC (.int 3))))
  (sSeq (sAsg (lPopAt 2 (xCall S_law_deal (aC (xP (xV 0)) (aC (xP (x1 fLen (xV 2))) aN)))) (gN 6))
  (sSeq (sAsg (xCall S_law_deal (aC (xP (xV 0)) (aC (xP (x2 oAdd (x1 fLen (xV 2)) (xC (.int 1)))) aN))) (gN 5))
  (sRet (x1 fTuple (x2 oAdd (x2 oAdd (xSl (xV 2) pN (pS (xV 5))) (xLst (aC (xP (xV 6)) aN))) (xSl (xV 2) (pS (xV 5)) pN))))))
  sNx)
  (sSeq (sAsg (xLst aN) (gN 7))
  (sSeq (sWhile (tV (x2 oNe (xV 2) (xLst aN)))
  (sSeq (sAsg (x2 oAdd (xC (.int 1)) (x2 oMul (xCall S_law_deal (aC (xP (xV 0)) (aC (xP (x1 fLen (xV 2))) aN))) (x1 fInt (x2 oEq (xV 3) (xC (.int 4)))))) (gN 8))
  (sSeq (sAsg (xCall S_law_deal (aC (xP (xV 0)) (aC (xP (x2 oAdd (x2 oSub (x1 fLen (xV 2)) (xV 8)) (xC (.int 1)))) aN))) (gN 5))
  (sSeq (sAsg (x2 oAdd (xV 7) (xSl (xV 2) (pS (xV 5)) (pS (x2 oAdd (xV 5) (xV 8))))) (gN 7))
  (sAsg (x2 oAdd (xSl (xV 2) pN (pS (xV 5))) (xSl (xV 2) (pS (x2 oAdd (xV 5) (xV 8))) pN)) (gN 2))))))
  (sRet (x1 fTuple (xV 7))))))))))
theorem cutI (ns : List Int) (a b : Nat) : cutD (ns.map PyData.int) (some (a : Int)) (some (b : Int)) = ((ns.take b).drop a).map .int := by
  rw [cutD_ints, HT.sIx_nat, HT.sIx_nat]
  congr 1
  apply List.ext_getElem?
  intro i
  rw [List.getElem?_take, List.getElem?_drop, List.getElem?_drop, List.getElem?_take]
  by_cases h1 : a + i < b
  · by_cases h2 : a + i < ns.length
    · rw [if_pos (by omega), if_pos h1, Nat.min_eq_left (by omega)]
    · rw [if_pos h1, List.getElem?_eq_none (show ns.length ≤ a + i by omega)]
      split
      · exact List.getElem?_eq_none (by omega)
      · rfl
  · rw [if_neg h1, if_neg (by omega)]
theorem RowOk.perm {ks row : List Int} (h : KeysOk ks) (p : row.Perm ks) : RowOk row := RowOk.of h p
theorem len__law_row : ∀ as k, S_law_row as k → as.length = 2 := by rintro _ k ⟨n, rfl, _⟩; rfl
theorem flipped {ls : List Int} (p : Nat) : (ls.take p ++ ((ls.take (p + 2)).drop p).reverse ++ ls.drop (p + 2)).Perm ls := by
  have e : ls = ls.take p ++ (ls.take (p + 2)).drop p ++ ls.drop (p + 2) := by
    conv => lhs; rw [← List.take_append_drop (p + 2) ls]
    congr 1
    conv => lhs; rw [← List.take_append_drop p (ls.take (p + 2))]
    rw [List.take_take, Nat.min_eq_left (by omega)]
  conv => rhs; rw [e]
  exact ((List.Perm.append_left _ (List.reverse_perm _)).append_right _)
end LW

namespace LW
open PySem PySem.Spec L2 KX DX MX
open PyProof.Rows hiding St
theorem toN {r : Int} (h : 0 ≤ r) : ∃ n : Nat, r = (n : Int) := ⟨r.toNat, by omega⟩
theorem cutI2 (ns : List Int) (p : Nat) : cutD (ns.map PyData.int) (some (p : Int)) (some ((p : Int) + 2)) = ((ns.take (p + 2)).drop p).map .int := by
  have := cutI ns p (p + 2)
  rwa [show (((p + 2 : Nat)) : Int) = (p : Int) + 2 by omega] at this
theorem cutIz (ns : List Int) (p z : Nat) : cutD (ns.map PyData.int) (some (p : Int)) (some ((p : Int) + (z : Int))) = ((ns.take (p + z)).drop p).map .int := by
  have := cutI ns p (p + z)
  rwa [show (((p + z : Nat)) : Int) = (p : Int) + (z : Int) by omega] at this
theorem cutFz (ns : List Int) (p z : Nat) : cutD (ns.map PyData.int) (some ((p : Int) + (z : Int))) none = (ns.drop (p + z)).map .int := by
  have := cutD_from ns (p + z)
  rwa [show (((p + z : Nat)) : Int) = (p : Int) + (z : Int) by omega] at this
theorem split3 (ls : List Int) (p z : Nat) : ls = ls.take p ++ (ls.take (p + z)).drop p ++ ls.drop (p + z) := by
  conv => lhs; rw [← List.take_append_drop (p + z) ls]
  congr 1
  conv => lhs; rw [← List.take_append_drop p (ls.take (p + z))]
  rw [List.take_take, Nat.min_eq_left (by omega)]
def slLen : Option Sl → Nat
  | some (.own ds) => ds.length
  | _ => 0
def muL (δ : DEnv) : Nat := slLen δ[2]?
theorem dd__law_row : ∀ as k, S_law_row as k → w_law_row { nx := fun _ => k (.pub .none), rt := k } (as ++ List.replicate (9 - as.length) .emp) := by
  rintro _ k ⟨n, rfl, h1, h2, q⟩
  simp
  refine ⟨n, rfl, by omega, by omega, fun m m0 m1 => ?_⟩
  obtain ⟨m, rfl⟩ := toN m0
  simp
  refine ⟨m + 1, by simp; omega, by omega, by omega, fun ks hl hk => ?_⟩
  have fin : ∀ row : List Int, row.Perm ks → k (.pub (tupI row)) := fun row p => by
    refine q row (RowOk.of hk p) (by rw [p.length_eq]; omega) fun z => ?_
    rw [z] at p
    have := p.length_eq
    simp at this; omega
  simp
  refine ⟨5, rfl, by omega, by omega, fun way w0 w1 => ?_⟩
  simp
  refine cnd_of (fun h => ?_) (fun hw1 => ?_)
  · simp [pickD_rev]
    rw [← List.map_reverse]
    exact fin _ (List.reverse_perm ks)
  · simp
    refine cnd_of (fun h => ?_) (fun hw2 => ?_)
    · simp
      refine ⟨i62_of (by omega) (by omega), ?_⟩
      refine forGo_any (fun δ => ∃ (ls : List Int) (x y : Sl), δ = [.sup, .pub (.int n), .own (ls.map .int), .pub (.int way), x, y, .emp, .emp, .emp] ∧ ls.Perm ks) _ _ ?_ ?_ ⟨ks, _, _, rfl, List.Perm.refl _⟩
      · rintro x hx δ N hN ⟨ls, x, y, rfl, hp⟩
        have hll := hp.length_eq
        simp
        refine ⟨(ls.length : Int), rfl, by omega, by omega, fun p p0 p1 => ?_⟩
        obtain ⟨p, rfl⟩ := toN p0
        simp only [sAsg_s, x2_s, xSl_s, xV_s, gN_pub, List.set_cons_succ, List.set_cons_zero, List.getElem?_cons_succ, List.getElem?_cons_zero, varK_own, varK_pub, pN_s, pS_s, rd_pub, withI_some, rd_var, rdV_own, withD_some, slD_l, xStp_s, rd_own, x1_s, xC_s, oNeg_i, oAdd_i, withL_s, pickD_rev, cutD_to, cut2, cutI2, oAdd_l, gN_own]
        rw [← List.map_reverse]
        refine ⟨by simp, by simp; omega, by simp; omega, ?_⟩
        rw [← List.map_append, ← List.map_append]
        exact hN _ ⟨_, _, _, rfl, (flipped p).trans hp⟩
      · rintro δ ⟨ls, x, y, rfl, hp⟩
        simpa using fin ls hp
    · simp
      refine cnd_of (fun h => ?_) (fun hw3 => ?_)
      · simp
        refine ⟨(ks.length : Int), rfl, by omega, by omega, fun p p0 p1 => ?_⟩
        obtain ⟨p, rfl⟩ := toN p0
        have hpl : p < ks.length := by omega
        have hix : ixN ks.length (p : Int) = some p := ix_at hpl
        simp [hix, hpl]
        refine ⟨by omega, ?_⟩
        have ee : (ks.map PyData.int).eraseIdx p = (ks.eraseIdx p).map .int := erase_map _ _ _
        rw [ee]
        have hel : (ks.eraseIdx p).length = ks.length - 1 := by rw [List.length_eraseIdx]; simp [hpl]
        refine ⟨_, rfl, by omega, by simp; omega, fun j j0 j1 => ?_⟩
        obtain ⟨j, rfl⟩ := toN j0
        simp only [gN_pub, List.set_cons_succ, List.set_cons_zero, sRet_s, x1_s, x2_s, xSl_s, xV_s, List.getElem?_cons_succ, List.getElem?_cons_zero, varK_own, varK_pub, pN_s, pS_s, rd_pub, withI_some, rd_var, rdV_own, withD_some, slD_l, rd_own, xLst_s, aC_s, xP_s, pubK_pub, aN_s, pubs, Option.map_some, cutD_to, cutD_from, oAdd_l, fTuple_l, retOf_pub]
        refine ⟨by simp, by simp; omega, by simp; omega, ?_⟩
        have e2 : List.map PyData.int (List.take j (ks.eraseIdx p)) ++ [.int ks[p]] ++ List.map PyData.int (List.drop j (ks.eraseIdx p)) = (((ks.eraseIdx p).take j ++ [ks[p]]) ++ (ks.eraseIdx p).drop j).map .int := by simp
        rw [e2]
        refine fin _ ?_
        have p1 : ((ks.eraseIdx p).take j ++ [ks[p]] ++ (ks.eraseIdx p).drop j).Perm (ks[p] :: ((ks.eraseIdx p).take j ++ (ks.eraseIdx p).drop j)) := by
          rw [List.append_assoc]
          exact List.perm_middle
        rw [List.take_append_drop] at p1
        exact p1.trans (erase_perm ks p hpl)
      · simp
        refine ⟨_, whGo_inv (fun δ => ∃ (ls fs : List Int) (x y : Sl), δ = [.sup, .pub (.int n), .own (ls.map .int), .pub (.int way), .emp, x, .emp, .own (fs.map .int), y] ∧ (fs ++ ls).Perm ks) muL ?_ _ _ ⟨ks, [], .emp, .emp, rfl, List.Perm.refl _⟩ (Nat.lt_succ_self _)⟩
        rintro δ N ⟨ls, fs, x, y, rfl, hp⟩ hN
        have hll := hp.length_eq
        rw [List.length_append] at hll
        have e0 : PyData.eqv (.list (ls.map .int)) (.list []) = decide (ls = []) := eqv_lstI ls []
        simp [e0]
        by_cases hn : ls = []
        · subst hn
          simp
          refine fin fs ?_
          simpa using hp
        · have hpos : 0 < ls.length := List.length_pos_iff.mpr hn
          simp [hn]
          refine ⟨(ls.length : Int), rfl, by omega, by omega, fun r r0 r1 => ?_⟩
          obtain ⟨r, rfl⟩ := toN r0
          obtain ⟨z, hz1, hz2, hz⟩ : ∃ z : Nat, 1 ≤ z ∧ z ≤ ls.length ∧ 1 + (r : Int) * (if (way == 4) = true then 1 else 0) = (z : Int) := by
            by_cases q4 : (way == 4) = true
            · exact ⟨1 + r, by omega, by omega, by rw [if_pos q4]; omega⟩
            · exact ⟨1, by omega, by omega, by rw [if_neg q4]; omega⟩
          simp only [rd_pub, withD_some, xV_s, List.getElem?_cons_succ, List.getElem?_cons_zero, varK_pub, x1_s, x2_s, xC_s, oEq_i, fInt_b, oMul_i, oAdd_i]
          refine ⟨.inr ⟨by split <;> omega, by split <;> omega⟩, ?_⟩
          rw [hz]
          simp
          refine ⟨((ls.length - z + 1 : Nat) : Int), by simp; omega, by omega, by omega, fun pp p0 p1 => ?_⟩
          obtain ⟨pp, rfl⟩ := toN p0
          simp only [gN_pub, List.set_cons_succ, List.set_cons_zero, sSeq_s, sAsg_s, x2_s, xSl_s, xV_s, List.getElem?_cons_succ, List.getElem?_cons_zero, varK_own, varK_pub, pN_s, pS_s, rd_pub, withI_some, rd_var, rdV_own, withD_some, slD_l, rd_own, oAdd_i, cutD_to, cutIz, cutFz, oAdd_l, gN_own]
          refine ⟨by simp; omega, by simp; omega, ?_⟩
          rw [← List.map_append, ← List.map_append]
          have e3 := split3 ls pp z
          have hd3 : (ls.take pp ++ ls.drop (pp + z)).length < ls.length := by simp; omega
          refine hN _ ⟨_, _, _, _, rfl, ?_⟩ ?_
          · refine List.Perm.trans ?_ hp
            conv => rhs; rw [e3]
            rw [List.append_assoc]
            refine List.Perm.append_left _ ?_
            rw [← List.append_assoc]
            exact List.perm_append_comm.append_right _
          · simp only [muL, List.getElem?_cons_succ, List.getElem?_cons_zero, slLen, List.length_map]
            exact hd3
end LW

namespace LW
open PySem PySem.Spec L2 KX DX MX
open PyProof.Rows hiding St
def S_law_turn : DF := fun as k => ∃ (row : List Int) (s m : Nat), as = [.pub (tupI row), .pub (.int s), .pub (.int m)] ∧ row.length ≤ 30 ∧ s ≤ 1 ∧ m ≤ 200 ∧ k (.pub (tupI (rnd s m row)))
def S_law_needed : DF := fun as k => ∃ (row : List Int) (s : Nat), as = [.pub (tupI row), .pub (.int s)] ∧ row.length ≤ 30 ∧ s ≤ 1 ∧ k (.pub (.int (need s row)))
abbrev w_law_turn : DS := (sSeq (sAsg (x1 fList (xV 0)) (gN 3))
  (sSeq (sFor (iR3 (aC (x2 oMod (x2 oAdd (x2 oAdd (xV 1) (xV 2)) (xC (.int 1))) (xC (.int 2))) (aC (x2 oSub (x1 fLen (xV 3)) (xC (.int 1))) (aC (xC (.int 2)) aN)))) (gN 4)
  (sIf (tV (x2 oGt (x2 oIx (xV 3) (xV 4)) (x2 oIx (xV 3) (x2 oAdd (xV 4) (xC (.int 1))))))
  (sAsg (xStp (xSl (xV 3) (pS (xV 4)) (pS (x2 oAdd (xV 4) (xC (.int 2))))) pN pN (pS (x1 oNeg (xC (.int 1))))) (gSliceL 3 (pS (xV 4)) (pS (x2 oAdd (xV 4) (xC (.int 2))))))
  sNx))
  (sRet (x1 fTuple (xV 3)))))
abbrev w_law_needed : DS := (sSeq (sAsg (xC (.int 0)) (gN 2))
  (sSeq (sWhile (tV (x2 oNe (x1 fList (xV 0)) (x1 fSorted (xV 0))))
  (sSeq (sAsg (x2 oAdd (xV 2) (xC (.int 1))) (gN 2))
  (sAsg (xCall S_law_turn (aC (xP (xV 0)) (aC (xP (xV 1)) (aC (xP (xV 2)) aN)))) (gN 0))))
  (sRet (xV 2))))
theorem par_list (c a : Nat) (ha : a = (c + 1) % 2) : ∀ N : Nat, (List.range N).filter (fun p => decide ((p + c) % 2 = 1)) = (List.range ((N + 1 - a) / 2)).map fun i => a + 2 * i
  | 0 => by
    have : (0 + 1 - a) / 2 = 0 := by omega
    rw [this]; rfl
  | N + 1 => by
    rw [List.range_succ, List.filter_append, par_list c a ha N]
    by_cases h : (N + c) % 2 = 1
    · have e : (N + 1 + 1 - a) / 2 = (N + 1 - a) / 2 + 1 := by omega
      rw [e, List.range_succ, List.map_append, List.filter_cons_of_pos (by simpa using h)]
      have : a + 2 * ((N + 1 - a) / 2) = N := by omega
      simp [this]
    · have e : (N + 1 + 1 - a) / 2 = (N + 1 - a) / 2 := by omega
      rw [e, List.filter_cons_of_neg (by simpa using h)]
      simp
theorem rng2 (n s m : Nat) : rngC (((s : Int) + m + 1) % 2) 2 (cntC (((s : Int) + m + 1) % 2) ((n : Int) - 1) 2) = (cmpL n s m).map fun p : Nat => .int (p : Int) := by
  have e : cmpL n s m = (List.range (n - 1)).filter (fun p => decide ((p + (s + m)) % 2 = 1)) := by
    unfold cmpL
    apply List.filter_congr
    intro p _
    rw [Nat.add_assoc]
  rw [e, par_list (s + m) ((s + m + 1) % 2) rfl]
  unfold rngC
  have c : cntC (((s : Int) + m + 1) % 2) ((n : Int) - 1) 2 = (n - 1 + 1 - (s + m + 1) % 2) / 2 := by
    unfold cntC
    split <;> omega
  rw [c, List.map_map]
  apply List.map_congr_left
  intro i _
  simp only [Function.comp]
  congr 1
  omega
theorem len__law_turn : ∀ as k, S_law_turn as k → as.length = 3 := by rintro _ k ⟨n, s, m, rfl, _⟩; rfl
theorem sw_eq {c : List Int} {p : Nat} (h : p + 1 < c.length) : (c.map PyData.int).take p ++ (((c.take (p + 2)).drop p).map PyData.int).reverse ++ (c.map PyData.int).drop (p + 2) = (swapAt c p).map .int := by
  have e : (c.take (p + 2)).drop p = [c.getD p 0, c.getD (p + 1) 0] := by
    apply List.ext_getElem?
    intro i
    rw [List.getElem?_drop, List.getElem?_take]
    match i with
    | 0 => simp [List.getD_eq_getElem?_getD, List.getElem?_eq_getElem (show p < c.length by omega)]
    | 1 => simp [List.getD_eq_getElem?_getD, List.getElem?_eq_getElem h]
    | i + 2 => simp; omega
  rw [e]
  unfold swapAt
  simp
theorem dd__law_turn : ∀ as k, S_law_turn as k → w_law_turn { nx := fun _ => k (.pub .none), rt := k } (as ++ List.replicate (5 - as.length) .emp) := by
  rintro _ k ⟨row, s, m, rfl, hn, hs, hm, q⟩
  simp [tupI]
  refine ⟨⟨by omega, by omega, by omega, by omega⟩, ?_⟩
  have e := rng2 row.length s m
  rw [e]
  refine forGo_inv (fun p : Nat => .int (p : Int)) (fun ps δ => ∃ (c : List Int) (z : Sl), δ = [.pub (.tuple (row.map .int)), .pub (.int s), .pub (.int m), .own (c.map .int), z] ∧ c.length = row.length ∧ (∀ p ∈ ps, p + 1 < row.length) ∧ cswaps c ps = rnd s m row) ?_ ?_ _ _ ?_
  · rintro p ps δ N hN ⟨c, z, rfl, hc, hp, he⟩
    have h1 := hp p List.mem_cons_self
    have hp' : ∀ q ∈ ps, q + 1 < row.length := fun q hq => hp q (List.mem_cons_of_mem _ hq)
    have he : cswaps (if c.getD (p + 1) 0 < c.getD p 0 then swapAt c p else c) ps = rnd s m row := he
    simp [atI_row (row := c) (show p < c.length by omega), atI_row1 (row := c) (show p + 1 < c.length by omega)]
    refine cnd_of (fun h => ?_) (fun h => ?_)
    · have h : c.getD (p + 1) 0 < c.getD p 0 := by simpa using h
      rw [if_pos h] at he
      simp only [sAsg_s, xStp_s, xSl_s, xV_s, List.getElem?_cons_succ, List.getElem?_cons_zero, varK_own, varK_pub, pN_s, pS_s, rd_pub, withI_some, x2_s, xC_s, withD_some, oAdd_i, rd_var, rdV_own, slD_l, x1_s, oNeg_i, rd_own, withL_s, cutI2, pickD_rev, gSliceL_s, withO_some, DX.listOf, withA_s]
      refine ⟨by simp, ?_⟩
      refine ⟨by omega, by omega, by simp; omega, by simp; omega, ?_⟩
      have e3 : ((p : Int) + 2).toNat = p + 2 := by omega
      have e4 : ((p : Int)).toNat = p := by omega
      simp only [List.set_cons_succ, List.set_cons_zero, e3, e4]
      rw [sw_eq (by omega)]
      exact hN _ ⟨swapAt c p, _, rfl, by rw [swapAt_len (by omega)]; exact hc, hp', he⟩
    · have h : ¬ c.getD (p + 1) 0 < c.getD p 0 := by simpa using h
      rw [if_neg h] at he
      exact hN _ ⟨c, _, rfl, hc, hp', he⟩
  · rintro δ ⟨c, z, rfl, hc, hp, he⟩
    have he : c = rnd s m row := he
    subst he
    simpa using q
  · exact ⟨row, .emp, rfl, rfl, fun p hp => (cmpL_mem.mp hp).1, cswaps_rnd _ _ _⟩
theorem len__law_needed : ∀ as k, S_law_needed as k → as.length = 2 := by rintro _ k ⟨n, s, rfl, _⟩; rfl
def muN (m : Nat) (δ : DEnv) : Nat := match (δ[2]? : Option Sl) with
  | some (.pub (.int i)) => m - i.toNat
  | _ => 0
theorem asc_iff (l : List Int) : (l = srtI l) ↔ Sorted l := by
  constructor
  · intro h; rw [h]; exact srtI_ord l
  · intro h; exact srtI_uniq (List.Perm.refl l) h
theorem dd__law_needed : ∀ as k, S_law_needed as k → w_law_needed { nx := fun _ => k (.pub .none), rt := k } (as ++ List.replicate (3 - as.length) .emp) := by
  rintro _ k ⟨row, s, rfl, hn, hs, q⟩
  obtain ⟨nd, hnd⟩ := toN (need_nn s row)
  have hle := need_le_len s row
  simp
  refine ⟨_, whGo_inv (fun δ => ∃ i : Nat, δ = [.pub (tupI (run s i row)), .pub (.int s), .pub (.int i)] ∧ i ≤ nd) (muN nd) ?_ _ _ ⟨0, rfl, Nat.zero_le _⟩ (Nat.lt_succ_self _)⟩
  rintro δ N ⟨i, rfl, hi⟩ hN
  simp [tupI]
  by_cases h : Sorted (run s i row)
  · have e : i = nd := by
      have := (sorted_run s i row).mp h
      omega
    have e2 := (asc_iff _).mpr h
    rw [if_pos e2]
    rw [hnd, ← e] at q
    exact q
  · have hlt : i < nd := by
      have : ¬ need s row ≤ i := fun z => h ((sorted_run s i row).mpr z)
      omega
    have e2 : ¬ run s i row = srtI (run s i row) := fun z => h ((asc_iff _).mp z)
    rw [if_neg e2]
    refine ⟨run s i row, s, i + 1, by simp [tupI], by rw [run_len]; exact hn, hs, by omega, ?_⟩
    simp
    refine hN _ ⟨i + 1, by simp; rfl, by omega⟩ ?_
    simp only [muN, List.getElem?_cons_succ, List.getElem?_cons_zero]
    omega
end LW

namespace DX
open PySem PySem.Spec L2 KX
open PyProof.Rows hiding St
section
variable {X : Cx} {F : Fam}
def oIsB : O2
  | .bool a, .bool b, k => k (.pub (.bool (decide (a = b))))
  | _, _, _ => False
def oIsNotB : O2
  | .bool a, .bool b, k => k (.pub (.bool (!decide (a = b))))
  | _, _, _ => False
@[simp ↓] theorem oIsB_b (a b : Bool) (k : Sl → Prop) : oIsB (.bool a) (.bool b) k = k (.pub (.bool (decide (a = b)))) := rfl
@[simp ↓] theorem oIsNotB_b (a b : Bool) (k : Sl → Prop) : oIsNotB (.bool a) (.bool b) k = k (.pub (.bool (!decide (a = b)))) := rfl
theorem s_isB : OpS F X (compareOp .Is) oIsB := ⟨_, op_isBl, fun C H U x y d e k Q e1 e2 w rx ry h q => by
  cases d with
  | bool a => cases e with
    | bool b => exact ⟨a, b, rx.bool, ry.bool, fin_pub w (.bl _) h q⟩
    | _ => exact False.elim h
  | _ => exact False.elim h⟩
theorem s_isnotB : OpS F X (compareOp .IsNot) oIsNotB := ⟨_, op_notBl, fun C H U x y d e k Q e1 e2 w rx ry h q => by
  cases d with
  | bool a => cases e with
    | bool b => exact ⟨a, b, rx.bool, ry.bool, fin_pub w (.bl _) h q⟩
    | _ => exact False.elim h
  | _ => exact False.elim h⟩
@[simp ↓] theorem oEq_b (a b : Bool) (k : Sl → Prop) : oEq (.bool a) (.bool b) k = k (.pub (.bool (a == b))) := by
  have h : ∀ x : Bool, eqOk (.bool x) := eqOk_bool
  show (eqOk _ ∧ eqOk _ ∧ k (.pub (.bool (PyData.eqv _ _)))) = _
  simp [h, PyData.eqv]
@[simp ↓] theorem oNe_b (a b : Bool) (k : Sl → Prop) : oNe (.bool a) (.bool b) k = k (.pub (.bool (!(a == b)))) := by
  have h : ∀ x : Bool, eqOk (.bool x) := eqOk_bool
  show (eqOk _ ∧ eqOk _ ∧ k (.pub (.bool (!PyData.eqv _ _)))) = _
  simp [h, PyData.eqv]
end
end DX

namespace DX
open PySem PySem.Spec L2 KX
open PyProof.Rows hiding St
section
variable {X : Cx} {F : Fam}
/-! xs.extend(ys), xs a list of one's own -/
def lExtend (i : Nat) (w : DE) (δ : DEnv) (Q : Sl → DEnv → Prop) : Prop := (∃ es, δ[i]? = some (.own es)) ∧ xP w δ fun r δ1 => ∃ ys ds, r = .pub (.list ys) ∧ δ1[i]? = some (.own ds) ∧ ds.length + ys.length ≤ 10000 ∧ Q (.pub .none) (δ1.set i (.own (ds ++ ys)))
variable {e : Expr} {wa : DE} {i : Nat} {x : Str} {p apos cpos pos : Pos}
theorem d_extend (hN : X.N[i]? = some x := by rfl) (ha : PE X e (lE F X.K wa)) (hv : Vis X.env.scope x := by first | exact Or.inl rfl | exact Or.inr (Or.inl rfl) | exact Or.inr (Or.inr rfl))
    (hd : (x == ("__debug__" : Str)) = false := by decide) (hcd : (x == ("__classdict__" : Str)) = false := by decide)
    (hbase : attributeBase (.Name x p) "extend" X.env (eval (.Name x p) X.env) = eval (.Name x p) X.env := by rfl)
    (hfew : ((backTo cpos (starEach [e] X.env)).all (fun x => !x.1) && (backToKw cpos (keywordEach [] X.env)).all (fun x => x.1.isSome)
      && decide ([e].length + ([] : List Keyword).length + (if ([] : List Keyword).isEmpty then 0 else 1) < 30)) = true := by rfl)
    (hline : (apos.endLine == cpos.line) = true := by rfl) (hs : starEach [e] X.env = (false, eval e X.env) :: starEach [] X.env := by rfl) (hplain : (backTo cpos (starEach ([] : List Expr) X.env)).any (·.1) = false := by rfl) :
    PE X (.Call (.Attribute (.Name x p) "extend" apos) [e] [] cpos) (lE F X.K (lExtend i wa)) := PE.imp (pe_bm PySem.F.plainAttrs_list PySem.F.slot_list_extend PySem.F.type_list_extend mt_extend (pe_var hN hv hd hcd) (da_cons (d_p ha) da_nil hs) hbase hfew hline hs hplain) fun σ H Q ⟨C, δ, U, k, e1, e2, en, w, q⟩ => by
  obtain ⟨⟨es, hes⟩, w⟩ := w
  obtain ⟨a, vs, h1, h2, h3⟩ := en.own hes
  refine ⟨_, h1, .inl ⟨rfl, vs, SqL.of h2⟩, C, δ, U, fun rs δ1 => ∃ r, rs = [r] ∧ ∃ ys ds, r = .pub (.list ys) ∧ δ1[i]? = some (.own ds) ∧ ds.length + ys.length ≤ 10000 ∧ k (.pub .none) (δ1.set i (.own (ds ++ ys))), e1, e2, en, ?_, fun rs δ1 hk us H' U' s en' ho => ?_⟩
  · show xP wa δ _
    refine cast (congrArg (xP wa δ) ?_) w
    funext r δ1
    apply propext
    constructor
    · intro h; exact ⟨r, rfl, h⟩
    · rintro ⟨r', e, h⟩; cases e; exact h
  · obtain ⟨r, rfl, ys, ds, rfl, hi, hl, hk⟩ := hk
    cases ho with
    | cons o1 o2 o3 =>
      cases o3
      obtain ⟨a', us', g1, g2, g3⟩ := en'.own hi
      rw [h1] at g1
      cases g1
      cases o1 with
      | lst hb hall =>
        refine ⟨a, _, us', _, rfl, rfl, g2, en'.wd.sub _ _ hb, by rw [g3.len, hall.len]; exact line10 hl, ?_⟩
        exact q _ _ hk _ _ U' s (en'.putOwn hi h1 (g3.app hall)) (show Dd _ _ _ _ from .non)
def withPL (o : Sl) (f : List PyData → Prop) (_ : Tag f := ()) : Prop := match o with
  | .pub (.list x) => f x
  | _ => False
@[simp ↓] theorem withPL_s (x : List PyData) (f : List PyData → Prop) : withPL (.pub (.list x)) f = f x := rfl
theorem withPL_ex (o : Sl) (f : List PyData → Prop) : withPL o f = ∃ d, o = .pub (.list d) ∧ f d := by
  apply propext
  constructor
  · intro h
    unfold withPL at h
    split at h
    · exact ⟨_, rfl, h⟩
    · exact h.elim
  · rintro ⟨x, rfl, h⟩; exact h
@[simp ↓] theorem lExtend_s (i : Nat) (δ : DEnv) (Q : Sl → DEnv → Prop) : lExtend i wa δ Q = withO δ[i]? fun _ => wa δ fun r δ1 => pubK (fun r δ1 => withPL r fun ys => withO δ1[i]? fun ds => ds.length + ys.length ≤ 10000 ∧ Q (.pub .none) (δ1.set i (.own (ds ++ ys)))) r δ1 := by
  unfold lExtend; rw [xP_s, withO_ex]
  have : (fun (r : Sl) (δ1 : DEnv) => ∃ ys ds, r = .pub (.list ys) ∧ δ1[i]? = some (.own ds) ∧ ds.length + ys.length ≤ 10000 ∧ Q (.pub .none) (δ1.set i (.own (ds ++ ys)))) = fun r δ1 => withPL r fun ys => withO δ1[i]? fun ds => ds.length + ys.length ≤ 10000 ∧ Q (.pub .none) (δ1.set i (.own (ds ++ ys))) := by
    funext r δ1; rw [withPL_ex]; apply propext; constructor
    · rintro ⟨d, ds, h1, h2, h3⟩; exact ⟨d, h1, by rw [withO_ex]; exact ⟨ds, h2, h3⟩⟩
    · rintro ⟨d, h1, h2⟩; rw [withO_ex] at h2; obtain ⟨ds, h2, h3⟩ := h2; exact ⟨d, ds, h1, h2, h3⟩
  rw [this]
  apply propext
  constructor
  · rintro ⟨⟨es, h1⟩, h2⟩; exact ⟨es, h1, h2⟩
  · rintro ⟨es, h1, h2⟩; exact ⟨⟨es, h1⟩, h2⟩
end
end DX

namespace DX
open PySem PySem.Spec L2 KX
open PyProof.Rows hiding St
@[simp ↓] theorem pubs_nil' (f : List PyData → Prop) : withD (pubs []) f = f [] := rfl
@[simp ↓] theorem pubs_pub' (d : PyData) (rs : List Sl) (f : List PyData → Prop) : withD (pubs (.pub d :: rs)) f = withD (pubs rs) fun ds => f (d :: ds) := by
  cases h : pubs rs with
  | none => simp [pubs, pubD, h]
  | some ds => simp [pubs, pubD, h]
/-! tuple * int -/
theorem tuple_mul1 (l : Addr) (items : Array Value) (n : Nat) (dd : Option Addr) (sl : Array (Option Value)) (u : Tok) :
    Meets (Builtin.«tuple.__mul__» ⟨[.ref l, .int 1 u], []⟩) (fun _ R s => s.heap.get? l = some { cls := .type "tuple", dict := dd, data := .seq items n, slots := sl } ∧ R (.ok (.ret (Value.ref l))) s) :=
  .of_wp fun prog w A R s h => by
    obtain ⟨hp, g, d, tk, os⟩ := s
    obtain ⟨hl, h⟩ := h
    have f1 := AutoSeq1.idx_int
    have c0 : (decide ((1 : Int) < -(2 ^ 63)) || decide ((1 : Int) ≥ 2 ^ 63)) = false := by decide
    have c1 : (items.isEmpty || (1 : Int) == 1) = true := by simp
    wp_walk using wpAny_loadPart' hl
    repeat (first
      | (refine wpAny_ite_false (decide_eq_false (by rw [c0]; exact Bool.false_ne_true)) ?_; wp_walk using wpAny_loadPart' hl)
      | (refine wpAny_ite_true (decide_eq_true c1) ?_; wp_walk using wpAny_loadPart' hl))
    exact ⟨_, rfl, h⟩
def rRep1 (K : PySem.W.Frag) : R2 := fun x y H Q => ∃ l xs, x = .ref l ∧ y = .int 1 ∧ SqT K H l xs ∧ Q (.ref l) H
section
variable {X : Cx} {F : Fam}
theorem op_rep1 : OpR X (binaryOp .Mult) (rRep1 X.K) := by
  intro pins s σ H x y v u Q I rx ry h
  obtain ⟨l, xs, rfl, rfl, hT, q⟩ := h
  cases rx
  obtain ⟨t, rfl⟩ := ry
  obtain ⟨its, r, ⟨⟨cls, dd, data, sl⟩, ho, hc, n, hd⟩, hs⟩ := I.tuple hT
  simp only at hc hd
  subst hc hd
  refine wpAny_binaryOp_repeat_ref (T := "tuple") (U := "int") (by decide) ⟨_, ho, rfl⟩ (fun s' => typeIs_int s' 1 t) noFill_tuple_mul F.fills_int_mul F.slot_int_rmul repeat_tuple F.slot_int_index.lookup
    (call_meets F.slot_int_rmul (typeIs_int s 1 t) F.entry_int_rmul (F.args_int_rmul_2 _ _) (int_rmul_tuple 1 t l its.toArray n dd sl)
      ⟨ho, rfl, ⟨_, ho, rfl⟩, call_meets F.slot_tuple_mul ⟨_, ho, rfl⟩ F.entry_tuple_mul (F.args_tuple_mul_2 _ _) (tuple_mul1 l its.toArray n dd sl t) ⟨ho, ?_⟩⟩)
  exact ⟨.ref l, H, I, rfl, q⟩
def oMulT : O2
  | .tuple l, .int b, k => l ≠ [] ∧ 1 ≤ b ∧ b ≤ 1 ∧ l.length ≤ 1000 ∧ k (.pub (.tuple (List.replicate b.toNat l).flatten))
  | _, _, _ => False
@[simp ↓] theorem oMulT_t (l : List PyData) (b : Int) (k : Sl → Prop) : oMulT (.tuple l) (.int b) k = (l ≠ [] ∧ 1 ≤ b ∧ b ≤ 1 ∧ l.length ≤ 1000 ∧ k (.pub (.tuple (List.replicate b.toNat l).flatten))) := rfl
theorem s_mulT : OpS F X (binaryOp .Mult) oMulT := ⟨_, op_rep1, fun C H U x y d e k Q e1 e2 w rx ry h q => by
  cases d with
  | tuple a => cases e with
    | int n =>
      obtain ⟨hne, h1, h2, h3, hk⟩ := h
      obtain ⟨a1, vs, rfl, g1, g2, g3⟩ := rx.tup w
      by_cases hn : n = 1
      · subst hn
        refine ⟨a1, vs, rfl, ry.int, e1 ▸ g1, fin_pub w g3 (by simpa using hk) q⟩
      · omega
    | _ => exact False.elim h
  | _ => exact False.elim h⟩
end
end DX

namespace DX
open PySem PySem.Spec L2 KX
open PyProof.Rows hiding St
section
variable {X : Cx} {F : Fam} {pos p p2 : Pos} {e a b : Expr} {wa : DE}
/-! {} -/
def xDict0 (δ : DEnv) (Q : Sl → DEnv → Prop) : Prop := Q (.pub (.dict [])) δ
@[simp ↓] theorem xDict0_s (δ : DEnv) (Q : Sl → DEnv → Prop) : xDict0 δ Q = Q (.pub (.dict [])) δ := rfl
theorem d_dict0 : PE X (.Dict [] [] pos) (lE F X.K xDict0) := PE.imp pe_dnewK fun σ H Q ⟨C, δ, U, k, e1, e2, en, w, q⟩ => by
  intro p hp
  have x : ExtK C H U (upd H p (.dK [])) (upd U p (.dK [])) := Ext.pub en.wd hp
  refine q _ δ w _ _ _ x.us (en.ext x) (rs_new en x (show Dd _ _ _ _ from ?_))
  exact Dd.dct (kvs := []) upd_same
/-! x not in range(i, j) -/
theorem op_notin_rng : OpR X (compareOp .NotIn) (fun x y H Q => ∃ i a lo hi, x = V.int i ∧ y = V.ref a ∧ H a = some (.rng lo hi) ∧ Q (.bl (!decide (lo ≤ i ∧ i < hi))) H) := by
  intro pins s σ H x y v u Q I rx ry h
  obtain ⟨i, a, lo, hi, rfl, rfl, ha, q⟩ := h
  obtain ⟨k, rfl⟩ := rx
  obtain rfl : u = Value.ref a := ry
  obtain ⟨t1, t2, t3, ho⟩ := I.hok a _ ha
  show wpAny _ _ (do return Value.bool (!(← contains (Value.ref a) (Value.int i k)))) _ _ s
  refine wpAny_bind (wpAny_contains_slot (T := "range") ⟨_, ho, rfl⟩ F.slot_range_contains (call_meets F.slot_range_contains ⟨_, ho, rfl⟩ F.entry_range_contains (F.args_range_contains_2 _ _) (q_contains a lo hi i t1 t2 t3 k)
    ⟨ho, wpAny_truthy_bool (wpAny_pure ⟨.bl _, H, I, rfl, ?_⟩)⟩))
  rw [place1]
  exact q
def xNIR (lo hi : Int) (wa : DE) (δ : DEnv) (Q : Sl → DEnv → Prop) : Prop := wa δ fun r δ1 => withI (rd δ1 r) fun z => Q (.pub (.bool (!decide (lo ≤ z ∧ z < hi)))) δ1
@[simp ↓] theorem xNIR_s (lo hi : Int) (δ : DEnv) (Q : Sl → DEnv → Prop) : xNIR lo hi wa δ Q = wa δ fun r δ1 => withI (rd δ1 r) fun z => Q (.pub (.bool (!decide (lo ≤ z ∧ z < hi)))) δ1 := rfl
def tRng (lo hi : Int) : TE := fun _ H Q => ∀ p, H p = none → Q (.ref p) (upd H p (.rng lo hi))
theorem nir_ok {lo hi : Int} {σ : L2.St} {H : Hp} {Q : VK} (h : lE F X.K (xNIR lo hi wa) σ H Q) : tOp (fun x y H Q => ∃ i a lo hi, x = V.int i ∧ y = V.ref a ∧ H a = some (.rng lo hi) ∧ Q (.bl (!decide (lo ≤ i ∧ i < hi))) H) (lE F X.K wa) (tRng lo hi) σ H Q := by
  obtain ⟨C, δ, U, k, e1, e2, en, w, q⟩ := h
  refine ⟨C, δ, U, _, e1, e2, en, w, fun r δ1 w1 v1 H1 U1 s1 en1 o1 => ?_⟩
  obtain ⟨U1', s1', en1', h1⟩ := hold_of en1 o1
  rw [withI_ex] at w1
  obtain ⟨z, hz, w1⟩ := w1
  obtain rfl := int_of en1' h1 hz
  refine fun p hp => ⟨z, p, lo, hi, rfl, rfl, upd_same, ?_⟩
  have x : ExtK C H1 U1' (upd H1 p (.rng lo hi)) U1' := Ext.priv en1'.wd hp
  exact q _ δ1 w1 _ _ U1' (s1.trans s1') (en1'.ext x) (rs_new en1' x (show Dd _ _ _ _ from .bl _))
theorem d_nir {lo hi : Int} {rng : Expr} {tr : TE} (ha : PE X e (lE F X.K wa)) (hr : PE X rng tr) (hi2 : ∀ σ H Q, tRng lo hi σ H Q → tr σ H Q)
    (hmk : behindInMarks .NotIn rng = false := by first | exact nomark _ | rfl) : PE X (.Compare e [.NotIn] [rng] pos) (lE F X.K (xNIR lo hi wa)) :=
  PE.imp (pe_cmpR op_notin_rng ha (PE.imp hr hi2) hmk) fun σ H Q h => nir_ok h
theorem dt_nir {lo hi : Int} {rng : Expr} {tr : TE} (ha : PE X e (lE F X.K wa)) (hr : PE X rng tr) (hi2 : ∀ σ H Q, tRng lo hi σ H Q → tr σ H Q)
    (hmk : behindInMarks .NotIn rng = false := by first | exact nomark _ | rfl) : PT X (.Compare e [.NotIn] [rng] pos) (lT F X.K (tV (xNIR lo hi wa))) :=
  PT.imp (pt_cmpR op_notin_rng ha (PE.imp hr hi2) hmk) (test_of fun σ H Q h => nir_ok h)
end
end DX

namespace KX
open PySem PySem.Spec L2
open PyProof.Rows hiding St
/-! an own error with one field -/
def spInit1 (C : Addr) (f : Str) : Sp := fun vs H Q _ => ∃ (a : Addr) (v : V), vs = [.ref a, v] ∧ H a = some (exo a C none) ∧ ∀ dx, H dx = none → dx ≠ a → Q .non (upd (upd H dx (exd dx [(f, v)])) a (exo a C (some dx)))
/-- what is left of C(v) -/
theorem made_heap {H1 : Hp} {a d C : Addr} {fs : List (Str × V)} (ha : H1 a = none) (hda : d ≠ a) : upd (del (upd (upd (upd H1 a (exo a C none)) d (exd d fs)) a (exo a C (some d))) a) d (.xd fs) = upd H1 d (.xd fs) := by
  funext b
  rcases Decidable.em (b = d) with e | e
  · subst e; rw [upd_same, upd_same]
  · rw [upd_ne e, upd_ne e]
    rcases Decidable.em (b = a) with e2 | e2
    · subst e2; rw [del_same, ha]
    · rw [del_ne e2, upd_ne e2, upd_ne e, upd_ne e2]
/-! isinstance of the caught error, with its field -/
section
variable {X : Cx}
structure ErrC (K : PySem.W.Frag) (C : Addr) : Prop where
  cl : (PySem.W.clsIn K C).isSome = true
  ga : PySem.W.findIn K (.ref C) "__getattribute__" = some (some (.builtin "BaseException.__getattribute__"))
  gg : PySem.W.findIn K (.ref C) "__getattr__" = some none
  sb : PySem.W.subIn K (.ref C) (.type "BaseException") = some true
  ca : PySem.W.findIn K (.ref C) "__class__" = some (some (.builtin "object.__class__"))
  cn : PySem.W.specialIn K (.builtin "object.__class__") "__get__" = some (some (.builtin "getset_descriptor.__get__"))
  ct : PySem.W.takesIn K (.builtin "object.__class__") = some true
  mo : PySem.W.mroIn K C (.type "object") = some true
def rIsErr (K : PySem.W.Frag) (C a : Addr) (cls : Value) (d : Option Addr) : List V → Hp → VK → Prop := fun xs H Q => ∃ (c : V) (cv : Value) (b : Bool) (dd : Addr) (fs : List (Str × V)), cls = .ref C ∧ d = some dd ∧ H dd = some (.xd fs) ∧ xs = [.ref a, c] ∧ ClsV c cv ∧ PySem.W.kitOne K (.ref C) cv = some b ∧ Q (.bl b) H
def rIsErrT (K : PySem.W.Frag) (C a : Addr) (cls : Value) (d : Option Addr) : List V → Hp → VK → Prop := fun xs H Q => ∃ (tp : Addr) (cs : List V) (us : List Value) (b : Bool) (dd : Addr) (fs : List (Str × V)), cls = .ref C ∧ d = some dd ∧ H dd = some (.xd fs) ∧ xs = [.ref a, .ref tp] ∧ H tp = some (.tup cs) ∧ Paired ClsV cs us ∧ PySem.W.kitAny K (.ref C) us = some b ∧ Q (.bl b) H
theorem err_at {a C dd : Addr} {oe : Obj} {pn pins : List (Addr × Obj)} {s : Shared} {σ : L2.St} {H : Hp} {fs : List (Str × V)} (I : Inv (X.suite a ((a, oe) :: pn)) pins σ H s) (hz : Zc (.ref C) (some dd) oe) (hf : ∃ vs, oe.data = .fields vs) (hd : H dd = some (.xd fs)) : ∃ od, PySem.W.InstAt s.heap a oe C (some od) := by
  obtain ⟨ha, _⟩ := I.pin (a, oe) (List.mem_append_left _ List.mem_cons_self)
  obtain ⟨vs, hv⟩ := hf
  obtain ⟨mA, ⟨od, es, ep, ho, _⟩, _⟩ := (show ObjOk X.prog X.w H s.heap dd (.xd fs) from I.hok dd _ hd)
  exact ⟨od, ha, hz.1, by unfold PySem.W.notCls; rw [hv] <;> rfl, by rw [hz.2]; exact ho⟩
theorem call_isErr {a C : Addr} {oe : Obj} {cls : Value} {d : Option Addr} {pn : List (Addr × Obj)} (T : ErrC X.K C) (hz : Zc cls d oe) (hf : ∃ vs, oe.data = .fields vs) : CallR (X.suite a ((a, oe) :: pn)) (.builtin "isinstance") (rIsErr X.K C a cls d) := by
  intro pins s σ H xs us Q I r ⟨c, cv, b, dd, fs, hcl, ed, hd, ex, kc, e, q⟩
  subst hcl ed ex
  obtain ⟨u1, u2, rfl, r1, r2⟩ := vals2 r
  obtain rfl : u1 = Value.ref a := r1
  obtain rfl := kc.eq r2
  obtain ⟨od, J⟩ := err_at I hz hf hd
  exact PySem.W.kia_one (PySem.W.kitx_exc T.cl T.ga T.gg T.sb T.ca T.cn T.ct T.mo) I.kIn J e (fun z => nomatch z) fun tk => ⟨.bl b, H, I.kept (t' := tk) fun _ _ z => z, rfl, q⟩
theorem call_isErrT {a C : Addr} {oe : Obj} {cls : Value} {d : Option Addr} {pn : List (Addr × Obj)} (T : ErrC X.K C) (hz : Zc cls d oe) (hf : ∃ vs, oe.data = .fields vs) : CallR (X.suite a ((a, oe) :: pn)) (.builtin "isinstance") (rIsErrT X.K C a cls d) := by
  intro pins s σ H xs us Q I r ⟨tp, cs, ws, b, dd, fs, hcl, ed, hd, ex, hT, kc, e, q⟩
  subst hcl ed ex
  obtain ⟨u1, u2, rfl, r1, r2⟩ := vals2 r
  obtain rfl : u1 = Value.ref a := r1
  obtain rfl : u2 = Value.ref tp := r2
  obtain ⟨od, J⟩ := err_at I hz hf hd
  obtain ⟨_, its, rv, o, h1, h2, n, h3⟩ := (show ObjOk X.prog X.w H s.heap tp (.tup cs) from I.hok tp _ hT)
  obtain rfl := ClsV.all kc rv
  obtain ⟨oc, od2, dt, sl⟩ := o
  simp only at h2 h3
  subst h2 h3
  exact PySem.W.kia_tup (PySem.W.kitx_exc T.cl T.ga T.gg T.sb T.ca T.cn T.ct T.mo) I.kIn J h1 e (fun z => nomatch z) fun tk => ⟨.bl b, H, I.kept (t' := tk) fun _ _ z => z, rfl, q⟩
end
/-! which class is which -/
theorem cls_some {K : PySem.W.Frag} {C : Addr} (h : PySem.W.hasDictIn K C = true) : (PySem.W.clsIn K C).isSome = true := by
  obtain ⟨cd, hc, _⟩ := PySem.W.any_some h
  rw [hc]; rfl
theorem kit_own {K : PySem.W.Frag} {C D : Addr} {b : Bool} (h1 : PySem.W.hasDictIn K D = true) (h2 : PySem.W.typeIn K (.ref D) = some (.type "type")) (h3 : PySem.W.subIn K (.ref C) (.ref D) = some b) (h4 : (Value.ref C == Value.ref D) = false) : PySem.W.kitOne K (.ref C) (.ref D) = some b := by
  unfold PySem.W.kitOne
  rw [if_neg (by rw [h4]; exact Bool.false_ne_true)]
  unfold PySem.W.kitCls
  simp only [cls_some h1, h2, h3]
  simp
theorem kit_self {K : PySem.W.Frag} {C : Addr} : PySem.W.kitOne K (.ref C) (.ref C) = some true := by
  unfold PySem.W.kitOne
  rw [if_pos (by simp)]
theorem kit_base {K : PySem.W.Frag} {C : Addr} {T : String} {b : Bool} (h1 : PySem.W.kitMeta T = true) (h2 : PySem.W.subIn K (.ref C) (.type T) = some b) : PySem.W.kitOne K (.ref C) (.type T) = some b := by
  unfold PySem.W.kitOne
  rw [if_neg (by show ¬ ((Value.ref C == Value.type T) = true); exact Bool.false_ne_true)]
  unfold PySem.W.kitCls
  simp only [h1, h2]
  simp
theorem meta_VE : PySem.W.kitMeta "ValueError" = true := by decide +kernel
end KX

namespace DX
open PySem PySem.Spec L2 KX
open PyProof.Rows hiding St
/-! what is never reached -/
section
variable {X : Cx}
theorem pe_no {e : Expr} : PE X e (fun _ _ _ => False) := ⟨fun _ _ _ _ _ _ h => h.elim⟩
theorem pa_no {es : List Expr} : PA X es (fun _ _ _ => False) := ⟨fun _ _ _ _ _ _ _ h => h.elim⟩
theorem pss_no {ss : List Stmt} : PSs X ss (fun _ _ _ => False) := ⟨fun _ _ _ _ _ _ h => h.elim⟩
theorem pg_no {e : Expr} : PG X e (fun _ _ _ _ => False) := ⟨fun _ _ _ _ _ _ _ _ _ h => h.elim⟩
theorem pts_no {es : List Expr} : PTs X es (fun _ _ _ => False) := ⟨fun _ _ _ _ _ _ h => h.elim⟩
end
theorem fn_no {P : Program} {w : World} {K : PySem.W.Frag} {mg : Str → Option Value} {base : Heap} {CX : CXT} {k : Nat} {f : Addr} {fd : FuncData} {ps : List Str} : FnOkG P w K mg base CX k f fd ps (fun _ _ _ _ => False) :=
  ⟨fun _ _ _ _ h => h.elim, fun _ _ _ _ _ _ _ _ _ _ _ _ _ _ h => h.elim⟩
/-! calls of a def that may raise -/
section
variable {X : Cx} {CX : CXT} {k i : Nat} {f : Addr} {fd : FuncData} {ps : List Str} {sp : Sp} {E : L2.St → XK} {x : Str} {p pos : Pos} {e : Expr} {es : List Expr} {t : TA}
theorem go_call {pins : List (Addr × Obj)} {σ : L2.St} {H : Hp} {s : Shared} {Q : VK} {us : List Value} {vs : List V} (G : FnOkG X.prog X.w X.K X.mg X.base CX k f fd ps sp) (hgd : X.A.guards = some []) (hr : Room k X.A) (hb : Binds X.K fd ps []) (hx : PassesAt CX X σ (E σ))
    (I : Inv X pins σ H s) (r : Vals vs us) (q : sp vs H Q (E σ)) : wpAny (model X.prog X.w) X.A (call (.ref f) us) (EP X pins σ Q) X.xe s := by
  have n1 : (us ++ []).length = ps.length := by rw [List.append_nil, ← r.length]; exact G.len _ _ _ _ q
  have b := hb s us I.kIn n1
  rw [List.append_nil] at b
  refine wpAny_call (codeAny_mono (G.run X.A X.stack s H ⟨us, []⟩ us vs Q (E σ) hgd hr I.env0 b r q) fun z s' hq => ?_)
  rcases z with e' | fl
  · exact hx pins H s e' s' I hq
  · cases fl <;> first | exact I.after hq | exact False.elim hq
theorem pe_callSG (G : FnOkG X.prog X.w X.K X.mg X.base CX k f fd ps sp) (hgd : X.A.guards = some []) (hr : Room k X.A) (hg : Gl X x) (hm : X.mg x = some (.ref f)) (hk : PySem.W.keepIn X.K (.ref f) = true) (hb : Binds X.K fd ps []) (hx : ∀ σ, PassesAt CX X σ (E σ))
    (ha : PA X (e :: es) t) (hdb : (x == ("__debug__" : Str)) = false := by decide) (he : starEach (e :: es) X.env = (false, eval e X.env) :: starEach es X.env := by rfl) (hpl : (backTo pos (starEach es X.env)).any (·.1) = false := by rfl) :
    PE X (.Call (.Name x p) (e :: es) [] pos) (tCallS sp E t) :=
  ⟨fun pins s σ H Q I h => wpAny_Call_Name_kw (ld_glob I hg hm (PySem.W.callWith_K (h₀ := X.base) I.ok.mod.kin hk (thn (ha.run pos pins s σ H _ I h) fun us s1 ⟨vs, H1, I1, r, q⟩ => ⟨I1.kIn, go_call G hgd hr hb (hx σ) I1 r q⟩) he hpl) hdb)⟩
def tCallLS (i : Nat) (f : Addr) (sp : Sp) (E : L2.St → XK) (t : TA) : TE := fun σ H Q => σ[i]? = some (some (.ref f)) ∧ t σ H fun vs H1 => sp vs H1 Q (E σ)
theorem pe_callLG (G : FnOkG X.prog X.w X.K X.mg X.base CX k f fd ps sp) (hgd : X.A.guards = some []) (hr : Room k X.A) (hN : X.N[i]? = some x) (hv : Vis X.env.scope x) (hk : PySem.W.keepIn X.K (.ref f) = true) (hb : Binds X.K fd ps []) (hx : ∀ σ, PassesAt CX X σ (E σ)) (ha : PA X (e :: es) t)
    (hdb : (x == ("__debug__" : Str)) = false := by decide) (hcd : (x == ("__classdict__" : Str)) = false := by decide)
    (he : starEach (e :: es) X.env = (false, eval e X.env) :: starEach es X.env := by rfl) (hpl : (backTo pos (starEach es X.env)).any (·.1) = false := by rfl) : PE X (.Call (.Name x p) (e :: es) [] pos) (tCallLS i f sp E t) := by
  refine ⟨fun pins s σ H Q I h => ?_⟩
  obtain ⟨hs, ht⟩ := h
  have rd := (pe_var (pos := p) hN hv hdb hcd).run pins s σ H (fun v H1 => v = .ref f ∧ H1 = H) I ⟨.ref f, hs, rfl, rfl⟩
  refine wpAny_Call_Name_kw (thn rd fun u s1 ⟨v, H1, I1, r1, q1⟩ => ?_)
  obtain ⟨rfl, rfl⟩ := q1
  cases r1
  exact PySem.W.callWith_K (h₀ := X.base) I.ok.mod.kin hk (thn (ha.run pos pins s1 σ _ _ I1 ht) fun us s2 ⟨vs, H2, I2, r, q⟩ => ⟨I2.kIn, go_call G hgd hr hb (hx σ) I2 r q⟩) he hpl
end
/-! the promise to raise, over data -/
/-- the call raises Cl, with the field fld = d -/
def spRz (F : Fam) (K : PySem.W.Frag) (Cl : Addr) (fld : Str) (g : List Sl → PyData → Prop) : Sp := fun vs H _ E => ∃ C U as d, C.K = K ∧ C.F = F ∧ C.H0 = H ∧ C.U0 = U ∧ Wd C H U ∧ Paired (ArOk C U) vs as ∧ g as d ∧
  ∀ dx v H' U', Ext C H U H' U' → H' dx = some (.xd [(fld, v)]) → Dd K U' v d → E (.ref Cl) (some dx) H'
section
variable {F : Fam} {K : PySem.W.Frag} {Cl : Addr} {fld : Str} {g : List Sl → PyData → Prop}
theorem rz_args {ws : DA} {C : Ct} {σ : L2.St} {δ : DEnv} {H U : Hp} {Q : VK} {E : XK} {d : PyData} (e1 : C.K = K) (e2 : C.F = F) (en : En C σ δ H U) (w : ws δ (fun rs _ => rs.all okArg = true ∧ g rs d))
    (hE : ∀ dx v H' U', Same U U' → Wd C H' U' → H' dx = some (.xd [(fld, v)]) → Dd K U' v d → E (.ref Cl) (some dx) H') : lA F K ws σ H (fun vs H1 => spRz F K Cl fld g vs H1 Q E) := by
  refine ⟨C, δ, U, _, e1, e2, en, w, fun rs δ' hk vs H' U0 s0 en0 ho => ?_⟩
  obtain ⟨U', s1, en', ho⟩ := hold_all en0 ho
  refine ⟨{ C with H0 := H', U0 := U' }, U', rs, d, e1, e2, rfl, rfl, en'.wd.self, arOk_of hk.1 ho, hk.2, fun dx v H2 U2 x hx hd => ?_⟩
  have x' : Ext C H' U' H2 U2 := ⟨x.same, x.us, x.sub, x.new, x.rok⟩
  exact hE dx v H2 U2 ((s0.trans s1).trans x.us) (en'.wd.ext x') hx hd
end
section
variable {P : Program} {w : World} {K : PySem.W.Frag} {mg : Str → Option Value} {base : Heap} {N ps : List Str} {k : Nat} {x qual : Str} {st : Stmt} {f : Addr} {fd : FuncData} {F : Fam} {Cl : Addr} {fld : Str} {g : List Sl → PyData → Prop}
theorem okGX {sp : Sp} (Fn : Fun K x qual st f fd) (S : FnScope N ps (defScope st)) (len : ∀ vs H Q E, sp vs H Q E → vs.length = ps.length)
    (hb : ∀ (cdv : Value) (A : Around) (outer : List Env) (s : Shared) (H : Hp) (vs : List V) (Q : VK) (E : XK), A.guards = some [] → Room k (A.deeper (envOfC qual (defScope st) s.heap.objs.size f cdv)) → sp vs H Q E →
      ∃ t, PSs (cxOf (L2.CX P w) P w K mg base N qual (defScope st) f cdv A outer s H E) (defBody st) t ∧ t { nx := fun _ H' => Q .non H', rt := Q } (L2.start N vs) H) : FnOkG P w K mg base (L2.CX P w) (k + 1) f fd ps sp := by
  obtain ⟨oc, od, kV, doc, pm, an, cdv, ct, osl, rfl, lk, hcd⟩ := Fn.ex
  exact fnG lk hcd S len fun A outer s H vs Q E hgd hr hsp => hb cdv A outer s H vs Q E hgd hr hsp
theorem okRz (Fn : Fun K x qual st f fd) (S : FnScope N ps (defScope st)) (hl : ∀ as d, g as d → as.length = ps.length) (hN : ps.length ≤ N.length)
    (hb : ∀ (cdv : Value) (A : Around) (outer : List Env) (s : Shared) (H : Hp) (E : XK), A.guards = some [] → Room k (A.deeper (envOfC qual (defScope st) s.heap.objs.size f cdv)) →
      ∃ t, PSs (cxOf (L2.CX P w) P w K mg base N qual (defScope st) f cdv A outer s H E) (defBody st) t ∧ ∀ (C : Ct) (U : Hp) (as : List Sl) (d : PyData) (σ : L2.St) (D : L2.Ends), C.K = K → C.F = F → En C σ (as ++ List.replicate (N.length - as.length) .emp) H U → g as d →
        (∀ dx v H' U', Wd C H' U' → H' dx = some (.xd [(fld, v)]) → Dd K U' v d → E (.ref Cl) (some dx) H') → t D σ H) : FnOkG P w K mg base (L2.CX P w) (k + 1) f fd ps (spRz F K Cl fld g) := by
  refine okGX Fn S (fun vs H Q E h => ?_) fun cdv A outer s H vs Q E hgd hr h => ?_
  · obtain ⟨C, U, as, d, e1, e2, e3, e4, wd, ar, hg, q⟩ := h
    rw [Paired.length ar]; exact hl as d hg
  · obtain ⟨C, U, as, d, e1, e2, e3, e4, wd, ar, hg, q⟩ := h
    obtain ⟨t, h1, h2⟩ := hb cdv A outer s H E hgd hr
    refine ⟨t, h1, h2 C U as d _ _ e1 e2 (en_start wd (by rw [Paired.length ar, hl as d hg]; exact hN) ar) hg fun dx v H' U' w' hx hd => ?_⟩
    exact q dx v H' U' ⟨fun a o hr e => w'.old a o hr (e3 ▸ e), e4 ▸ w'.vold, w'.sub, fun a o e => (w'.new a o e).imp (fun z => e4 ▸ z) fun z => e3 ▸ z, w'.rok⟩ hx hd
end
/-! a call whose first argument is a def -/
def spDF (F : Fam) (K : PySem.W.Frag) (fC : Addr) (df : DF) : Sp := fun vs H Q E => ∃ us, vs = .ref fC :: us ∧ spD F K df us H Q E
section
variable {X : Cx} {F : Fam} {x y : Str} {p q pos : Pos} {k : Nat} {f fC : Addr} {fd : FuncData} {ps : List Str} {df : DF} {es : List Expr} {ws : DA}
theorem d_callF (G : FnOkG X.prog X.w X.K X.mg X.base CX0 k f fd ps (spDF F X.K fC df)) (hgd : X.A.guards = some []) (hr : Room k X.A) (hg : Gl X x) (hm : X.mg x = some (.ref f)) (hk : PySem.W.keepIn X.K (.ref f) = true) (hb : Binds X.K fd ps [])
    (hgC : Gl X y) (hmC : X.mg y = some (.ref fC)) (ha : PA X es (lA F X.K ws)) (hdb : (x == ("__debug__" : Str)) = false := by decide) (hdc : (y == ("__debug__" : Str)) = false := by decide)
    (he : starEach (.Name y q :: es) X.env = (false, eval (.Name y q) X.env) :: starEach es X.env := by rfl) (hpl : (backTo pos (starEach es X.env)).any (·.1) = false := by rfl) (hT : F.triv := by exact trivial) :
    PE X (.Call (.Name x p) (.Name y q :: es) [] pos) (lE F X.K (xCall df ws)) := by
  refine PE.imp (pe_callG G hgd hr hg hm hk hb .nil pass0 (pa_cons (pe_glob (v := .ref fC) hgC hmC rfl hdc) ha he) hdb he hpl) fun σ H Q h => ?_
  have h2 := call_of (E := fun _ _ _ => False) hT h
  obtain ⟨C, δ, U, kk, e1, e2, en, w, q⟩ := h2
  refine ⟨C, δ, U, kk, e1, e2, en, w, fun rs δ' hk vs H' U' s en' ho => ?_⟩
  have h3 := q rs δ' hk vs H' U' s en' ho
  exact ⟨vs ++ [], rfl, h3⟩
end
section
variable {C : Ct} {σ : L2.St} {δ : DEnv} {H U : Hp}
theorem En.consEmp {o : Option V} (en : En C σ δ H U) : En C (o :: σ) (.emp :: δ) H U := by
  refine ⟨en.wd, by simp [en.len], fun i s hs => ?_, fun i j ds es a h1 h2 h3 h4 => ?_⟩
  · cases i with
    | zero => cases hs; exact ⟨o, rfl, by cases o <;> trivial⟩
    | succ i => simpa using en.sl i s (by simpa using hs)
  · cases i with
    | zero => cases h1
    | succ i =>
      cases j with
      | zero => cases h2
      | succ j => rw [en.sep i j ds es a (by simpa using h1) (by simpa using h2) (by simpa using h3) (by simpa using h4)]
end
section
variable {X : Cx} {F : Fam}
def fStr : O1
  | .int i, k => i.natAbs.log2 < 1920 ∧ k (.pub (.str (Str.ofString (toString i))))
  | _, _ => False
@[simp ↓] theorem fStr_i (i : Int) (k : Sl → Prop) : fStr (.int i) k = (i.natAbs.log2 < 1920 ∧ k (.pub (.str (Str.ofString (toString i))))) := rfl
theorem s_str : CallS F X (.type "str") fStr := ⟨_, call_str_int, fun C H U x d k Q e1 e2 w rx h q => by
  cases d with
  | int i => exact ⟨i, by rw [rx.int], h.1, fin_pub w (.str _) h.2 q⟩
  | _ => exact False.elim h⟩
end
/-! a display of pure items at fixed slots -/
theorem aN_at {δ : DEnv} : ∀ (Q : List Sl → DEnv → Prop), Q (([] : List PyData).map .pub) δ → aN δ Q := fun _ h => h
theorem aC_at {δ : DEnv} {w : DE} {ws : DA} {d : PyData} {ds : List PyData} (h : ∀ (Q : Sl → DEnv → Prop), Q (.pub d) δ → xP w δ Q) (hs : ∀ (Q : List Sl → DEnv → Prop), Q (ds.map .pub) δ → ws δ Q) : ∀ (Q : List Sl → DEnv → Prop), Q ((d :: ds).map .pub) δ → aC (xP w) ws δ Q := fun Q q => by
  rw [aC_s]
  exact h _ (hs _ q)
theorem c_at {δ : DEnv} {d : PyData} : ∀ (Q : Sl → DEnv → Prop), Q (.pub d) δ → xP (xC d) δ Q := fun Q h => by simpa using h
theorem pubs_map' : ∀ ds : List PyData, pubs (ds.map Sl.pub) = some ds
  | [] => rfl
  | d :: ds => by simp [pubs, pubs_map' ds]
end DX

namespace DX
open PySem PySem.Spec L2 KX
open PyProof.Rows hiding St
/-! for x in [f, g]: .. h(x, ..), where f, g are defs -/
def spDFs (F : Fam) (K : PySem.W.Frag) (fs : List Addr) (df : DF) : Sp := fun vs H Q E => ∃ f, f ∈ fs ∧ ∃ us, vs = .ref f :: us ∧ spD F K df us H Q E
theorem fn_any {P : Program} {w : World} {K : PySem.W.Frag} {mg : Str → Option Value} {base : Heap} {CX : CXT} {k : Nat} {g : Addr} {fd : FuncData} {ps : List Str} {F : Fam} {fs : List Addr} {df : DF} (h : ∀ f ∈ fs, FnOkG P w K mg base CX k g fd ps (spDF F K f df)) : FnOkG P w K mg base CX k g fd ps (spDFs F K fs df) :=
  ⟨fun vs H Q E ⟨f, hf, us, e, sp⟩ => (h f hf).len vs H Q E ⟨us, e, sp⟩, fun A outer s H args us vs Q E hg hr e0 hb r ⟨f, hf, us', e, sp⟩ => (h f hf).run A outer s H args us vs Q E hg hr e0 hb r ⟨us', e, sp⟩⟩
def HoldsFn (i : Nat) (fs : List Addr) (σ : L2.St) : Prop := ∃ f, f ∈ fs ∧ σ[i]? = some (some (V.ref f))
section
variable {X : Cx} {F : Fam} {x y : Str} {p q pos : Pos} {k i : Nat} {f : Addr} {fs : List Addr} {fd : FuncData} {ps : List Str} {df : DF} {e c : Expr} {es : List Expr} {ws : DA} {we : DE} {wc : DT} {ua ub : DS} {P : L2.St → Prop}
theorem d_callV (G : FnOkG X.prog X.w X.K X.mg X.base CX0 k f fd ps (spDFs F X.K fs df)) (hgd : X.A.guards = some []) (hr : Room k X.A) (hg : Gl X x) (hm : X.mg x = some (.ref f)) (hk : PySem.W.keepIn X.K (.ref f) = true) (hb : Binds X.K fd ps [])
    (hN : X.N[i]? = some y) (hv : Vis X.env.scope y) (ha : PA X es (lA F X.K ws)) (hdb : (x == ("__debug__" : Str)) = false := by decide) (hdc : (y == ("__debug__" : Str)) = false := by decide) (hcd : (y == ("__classdict__" : Str)) = false := by decide)
    (he : starEach (.Name y q :: es) X.env = (false, eval (.Name y q) X.env) :: starEach es X.env := by rfl) (hpl : (backTo pos (starEach es X.env)).any (·.1) = false := by rfl) (hT : F.triv := by exact trivial) :
    PE X (.Call (.Name x p) (.Name y q :: es) [] pos) (fun σ H Q => HoldsFn i fs σ ∧ lE F X.K (xCall df ws) σ H Q) := by
  refine PE.imp (pe_callG G hgd hr hg hm hk hb .nil pass0 (pa_cons (pe_var hN hv hdc hcd) ha he) hdb he hpl) fun σ H Q h => ?_
  obtain ⟨⟨g, hgf, hs⟩, h⟩ := h
  obtain ⟨C, δ, U, kk, e1, e2, en, w, q⟩ := call_of (E := fun _ _ _ => False) hT h
  refine ⟨.ref g, hs, C, δ, U, kk, e1, e2, en, w, fun rs δ' hk vs H' U' s en' ho => ?_⟩
  exact ⟨g, hgf, vs ++ [], rfl, q rs δ' hk vs H' U' s en' ho⟩
theorem dt_notV (h : PE X e (fun σ H Q => P σ ∧ lE F X.K we σ H Q)) (he : ∀ whole, isTrue e X.env whole = (do let v ← whole; standAt e.pos; holding [v] (truthy v)) := by intro _; rfl) : PT X (.UnaryOp .Not e pos) (fun σ H Q => P σ ∧ lT F X.K (tNot' (tV we)) σ H Q) := by
  refine PT.imp (pt_not (pt_truth h he)) fun σ H Q hq => ?_
  obtain ⟨p, C, δ, U, k, e1, e2, en, w, q⟩ := hq
  refine ⟨p, C, δ, U, _, e1, e2, en, w, fun r δ' hk v H' U' s en' o => ?_⟩
  obtain ⟨c, hc, hk⟩ := hk
  obtain ⟨U2, s2, en2, h2⟩ := hold_of en' o
  rcases rdb_of en2 h2 hc with h | ⟨_, _, _, _, h, _⟩
  · cases h
    exact ⟨c, rfl, q _ δ' hk H' U2 (s.trans s2) en2⟩
  · cases h
theorem ds_ifV {sa sb : List Stmt} (hc : PT X c (fun σ H Q => P σ ∧ lT F X.K wc σ H Q)) (ha : PSs X sa (lS F X.K ua)) (hb : PSs X sb (lS F X.K ub)) : PS X (.If c sa sb pos) (fun D σ H => P σ ∧ lS F X.K (sIf wc ua ub) D σ H) := PS.imp (ps_if hc ha hb) fun D σ H ⟨p, C, δ, U, DD, e1, e2, en, w, ok⟩ => by
  refine ⟨p, C, δ, U, _, e1, e2, en, w, fun k δ' hk H' U' s en' => ?_⟩
  cases k with
  | true => exact iteT ⟨C, δ', U', DD, e1, e2, en', (by simpa using hk), ok⟩
  | false => exact iteF ⟨C, δ', U', DD, e1, e2, en', (by simpa using hk), ok⟩
end
theorem En.emp {C : Ct} {σ : L2.St} {δ : DEnv} {H U : Hp} {i : Nat} {o : Option V} (en : En C σ δ H U) : En C (σ.set i o) (δ.set i .emp) H U := by
  refine ⟨en.wd, by rw [List.length_set, List.length_set]; exact en.len, fun j s hs => ?_, fun j k ds es a hj hk sj sk => ?_⟩
  · by_cases q : i = j
    · subst q
      rcases Nat.lt_or_ge i δ.length with hi | hi
      · rw [List.getElem?_set_self hi] at hs
        cases hs
        exact ⟨_, List.getElem?_set_self (by rw [en.len]; exact hi), by cases o <;> trivial⟩
      · rw [List.getElem?_eq_none (by rw [List.length_set]; exact hi)] at hs; cases hs
    · rw [List.getElem?_set_ne q] at hs ⊢
      exact en.sl j s hs
  · have ne : ∀ {j : Nat} {ds : List PyData}, (δ.set i .emp)[j]? = some (.own ds) → i ≠ j := fun {j ds} h q => by
      subst q
      rcases Nat.lt_or_ge i δ.length with hi | hi
      · rw [List.getElem?_set_self hi] at h; cases h
      · rw [List.getElem?_eq_none (by rw [List.length_set]; exact hi)] at h; cases h
    have n1 := ne hj
    have n2 := ne hk
    rw [List.getElem?_set_ne n1] at hj sj
    rw [List.getElem?_set_ne n2] at hk sk
    exact en.sep j k ds es a hj hk sj sk
def sFns (i : Nat) (b : DS) (D : DEnds) : Nat → DEnv → Prop
  | 0, δ => D.nx δ
  | n + 1, δ => i < δ.length ∧ b { D with nx := sFns i b D n, ct := sFns i b D n, bk := D.nx } (δ.set i .emp)
def sForFns (n i : Nat) (b : DS) (D : DEnds) (δ : DEnv) : Prop := sFns i b D n δ
section
variable {X : Cx} {F : Fam} {y : Str} {q pos : Pos} {i : Nat} {fs : List Addr} {lst : Expr} {body : List Stmt} {b : DS}
theorem ds_forFns (hp : PassesOwn (model X.prog X.w) X.A X.env X.xe) (hc : X.calm = true) (hl : PE X lst (fun _ H Q => ∀ p, H p = none → Q (.ref p) (upd H p (.lst (fs.map V.ref))))) (pg : PG X (.Name y q) (gName i)) (hb : PSs X body (fun D σ H => HoldsFn i fs σ ∧ lS F X.K b D σ H)) (hx : ∀ x, foldedSetIterable lst X.env x = pure x := by intro _; rfl) :
    PS X (.For (.Name y q) lst body [] pos) (lS F X.K (sForFns fs.length i b)) := PS.imp (ps_for hp hc (pi_seq hl) pg hb hx) fun D σ H ⟨C, δ, U, DD, e1, e2, en, w, ok⟩ => by
  intro p hp0
  have x : ExtK C H U (upd H p (.lst (fs.map V.ref))) (upd U p (.lst (fs.map V.ref))) := Ext.pub en.wd hp0
  have en' := en.ext x
  have ok2 := ok.look en'.wd
  refine ⟨p, rfl, .inl ⟨⟨_, SqL.of upd_same⟩, ?_⟩⟩
  have lv : (fs.map V.ref).length = fs.length := List.length_map _
  show ∃ W : Nat → Nat → L2.St → Hp → Prop, _ ∧ _
  refine for_it (g := gName i) (tb := fun D σ H => HoldsFn i fs σ ∧ lS F X.K b D σ H) (D := D) (walk_list (K := X.K) (a := p) (xs := fs.map V.ref)) (fun j σ H => ∃ δ U', En (C.look (upd U p (.lst (fs.map V.ref)))) σ δ H U' ∧ sFns i b DD (fs.length - j) δ) ⟨δ, _, en'.look, w⟩ (fun j σ H _ ⟨δ, U', en, _⟩ => SqL.of (en.wd.sub _ _ (en.wd.vold _ _ upd_same))) (fun j v σ H H2 hj ⟨δ, U', en, hf⟩ y => ?_) (fun σ H ⟨δ, U', en, hf⟩ => ?_)
  · obtain ⟨rfl, hv⟩ := y
    rw [lv] at hj
    rw [show fs.length - j = (fs.length - (j + 1)) + 1 by omega] at hf
    obtain ⟨hi, hf⟩ := hf
    rw [List.getElem?_map, List.getElem?_eq_getElem hj] at hv
    cases hv
    refine ⟨⟨fs[j], List.getElem_mem hj, List.getElem?_set_self (by rw [en.len]; exact hi)⟩, C.look (upd U p (.lst (fs.map V.ref))), _, U', _, e1, e2, en.emp, hf, ⟨fun δ h σ H U en => ⟨δ, U, en, h⟩, ok2.nx, fun δ h σ H U en => ⟨δ, U, en, h⟩, ok2.rt⟩⟩
  · rw [lv, Nat.sub_self] at hf
    exact ok2.nx δ hf σ H U' en
end
end DX

namespace DX
open PySem PySem.Spec L2 KX
open PyProof.Rows hiding St
section
variable {X : Cx} {F : Fam} {pos p p2 pos2 : Pos} {e a b : Expr} {wa wl : DE}
/-! sorted(set(t)), t a tuple of ints -/
theorem cr_setI (hc : X.calm = true) : CallR X (.type "set") (fun vs H Q => ∃ (a : Addr) (ns : List Int), vs = [V.ref a] ∧ SqT X.K H a (ns.map V.int) ∧ ns.length ≤ 60 ∧ ∀ p c, c ≤ ns.length → H p = none → Q (.ref p) (upd H p (SetO X.w p (fun j => decide (j ∈ ns)) c))) := by
  intro pins s σ H vs us Q I r h
  obtain ⟨a, ns, rfl, hs, hl, q⟩ := h
  obtain ⟨its, rv, tp, hz⟩ := I.tuple hs
  rw [Vals.ref1 r]
  refine call_set_tupI ns (I.ok.hd hc) tp (by simpa using intsAre_of rv) (by show ns.length + 1 < 4096; omega) fun h' tk c R hcn kp => ?_
  exact ⟨.ref _, _, I.laid (t' := tk) kp (Nat.le_refl _) (setO_new R), rfl, q _ c hcn (I.hok.fresh (Nat.le_refl _))⟩
def xSset (wa : DE) (δ : DEnv) (Q : Sl → DEnv → Prop) : Prop := wa δ fun r δ1 => ∃ ns : List Int, rd δ1 r = some (.tuple (ns.map .int)) ∧ ns.length ≤ 60 ∧ ∀ ms : List Int, ms.Pairwise (· < ·) → (∀ k, k ∈ ms ↔ k ∈ ns) → ms.length ≤ ns.length → Q (.own (ms.map .int)) δ1
@[simp ↓] theorem xSset_s (δ : DEnv) (Q : Sl → DEnv → Prop) : xSset wa δ Q = wa δ fun r δ1 => ∃ ns : List Int, rd δ1 r = some (.tuple (ns.map .int)) ∧ ns.length ≤ 60 ∧ ∀ ms : List Int, ms.Pairwise (· < ·) → (∀ k, k ∈ ms ↔ k ∈ ns) → ms.length ≤ ns.length → Q (.own (ms.map .int)) δ1 := rfl
theorem d_sset (hc : X.calm = true) (hgs : Gl X "sorted") (ms : X.mg "sorted" = none) (hgt : Gl X "set") (mt : X.mg "set" = none) (ha : PE X e (lE F X.K wa)) (h1 : starEach [e] X.env = (false, eval e X.env) :: starEach [] X.env := by rfl)
    (h2 : starEach [.Call (.Name "set" p2) [e] [] pos2] X.env = (false, eval (.Call (.Name "set" p2) [e] [] pos2) X.env) :: starEach [] X.env := by rfl) :
    PE X (.Call (.Name "sorted" p) [.Call (.Name "set" p2) [e] [] pos2] [] pos) (lE F X.K (xSset wa)) := by
  refine PE.imp (pe_callB (cr_sortedSet hc) hgs ms (by decide +kernel) (pa_cons (pe_callTy (cr_setI hc) hgt mt (by decide +kernel) (pa_cons ha pa_nil h1) (he := h1)) pa_nil h2)) fun σ H Q ⟨C, δ, U, k, e1, e2, en, w, q⟩ => ?_
  refine ⟨C, δ, U, _, e1, e2, en, w, fun r δ1 w1 v1 H1 U1 s1 en1 o1 => ?_⟩
  obtain ⟨U1', s1', en1', g⟩ := hold_of en1 o1
  obtain ⟨ns, hr, hl, w1⟩ := w1
  obtain ⟨a, vs, rfl, g1, g2, _⟩ := (rdb_of en1' g hr).tup en1'.wd
  obtain rfl := g2.ints
  refine ⟨a, ns, rfl, e1 ▸ g1, hl, fun p c hcn hp => ⟨p, _, c, rfl, upd_same, by omega, fun ms p' m1 m2 m3 hp' => ?_⟩⟩
  have x1 : ExtK C H1 U1' (upd H1 p (SetO X.w p (fun j => decide (j ∈ ns)) c)) U1' := Ext.priv en1'.wd hp
  have en2 := en1'.ext x1
  have x2 : ExtK C _ U1' (upd (upd H1 p (SetO X.w p (fun j => decide (j ∈ ns)) c)) p' (.lst (ms.map V.int))) U1' := Ext.priv en2.wd hp'
  exact q (.own (ms.map .int)) δ1 (w1 ms m1 (by simpa using m2) (by omega)) _ _ U1' (s1.trans s1') (en2.ext x2) (rs_new en2 x2 ⟨p', rfl, hp', en2.wd.noneU hp', _, upd_same, ddAll_ints ms⟩)
/-! x not in range(i, j, 2) -/
def RngX (p : Addr) (lo hi st : Int) : HO := .ext fun h => ∃ t u v, h.get? p = some { cls := .type "range", data := .fields #[.int lo t, .int hi u, .int st v] }
theorem cr_range3 : CallR X (.type "range") (fun vs H Q => ∃ i j, vs = [V.int i, V.int j, V.int 2] ∧ (j - i).natAbs < 1000 ∧ ∀ p, H p = none → Q (.ref p) (upd H p (RngX p i j 2))) := by
  intro pins s σ H vs us Q I r h
  obtain ⟨i, j, rfl, hb, q⟩ := h
  cases r with | cons r1 r => ?_
  cases r with | cons r2 r => ?_
  cases r with | cons r3 r => ?_
  cases r
  obtain ⟨t, rfl⟩ := r1
  obtain ⟨u, rfl⟩ := r2
  obtain ⟨v, rfl⟩ := r3
  refine call_range_3 (by decide) ⟨.ref s.heap.objs.size, upd H s.heap.objs.size (RngX s.heap.objs.size i j 2), I.laid (t' := s.toks) (fun b o e => Heap.get?_push_of_some _ e) (Nat.le_refl _) ?_, rfl, q _ (I.hok.fresh (Nat.le_refl _))⟩ (Or.inl (PyProof.noPylong_small (by omega)))
  exact ⟨⟨t, u, v, Heap.get?_push_size _ rfl⟩, ⟨_, Heap.get?_push_size _ rfl⟩, fun h1 h2 ⟨t, u, v, e⟩ k => ⟨t, u, v, k _ e⟩⟩
theorem q_contains2 (r : Addr) (a b i : Int) (t u v k : Tok) :
    Meets (Builtin.«range.__contains__» ⟨[.ref r, .int i k], []⟩) (fun _ R s => s.heap.get? r = some { cls := .type "range", dict := none, data := .fields #[.int a t, .int b u, .int 2 v], slots := #[] } ∧ R (.ok (.ret (.bool (Builtin.Range.rangePlace? a b 2 i).isSome))) s) :=
  .of_wp fun prog w A R s h => by
    obtain ⟨hp, g, d, tk, os⟩ := s
    obtain ⟨hl, h⟩ := h
    wp_walk
    exact ⟨_, rfl, h⟩
theorem place2 (a b i : Int) : (Builtin.Range.rangePlace? a b 2 i).isSome = decide (a ≤ i ∧ i < b ∧ (i - a) % 2 = 0) := by
  unfold Builtin.Range.rangePlace?
  by_cases h1 : a ≤ i <;> by_cases h2 : i < b <;> by_cases h3 : (i - a) % 2 = 0 <;> simp [h1, h2, h3]
theorem op_notin_rng2 : OpR X (compareOp .NotIn) (fun x y H Q => ∃ i a lo hi, x = V.int i ∧ y = V.ref a ∧ H a = some (RngX a lo hi 2) ∧ Q (.bl (!decide (lo ≤ i ∧ i < hi ∧ (i - lo) % 2 = 0))) H) := by
  intro pins s σ H x y v u Q I rx ry h
  obtain ⟨i, a, lo, hi, rfl, rfl, ha, q⟩ := h
  obtain ⟨k, rfl⟩ := rx
  obtain rfl : u = Value.ref a := ry
  obtain ⟨⟨t1, t2, t3, ho⟩, _⟩ := (show ObjOk X.prog X.w H s.heap a (RngX a lo hi 2) from I.hok a _ ha)
  show wpAny _ _ (do return Value.bool (!(← contains (Value.ref a) (Value.int i k)))) _ _ s
  refine wpAny_bind (wpAny_contains_slot (T := "range") ⟨_, ho, rfl⟩ F.slot_range_contains (call_meets F.slot_range_contains ⟨_, ho, rfl⟩ F.entry_range_contains (F.args_range_contains_2 _ _) (q_contains2 a lo hi i t1 t2 t3 k)
    ⟨ho, wpAny_truthy_bool (wpAny_pure ⟨.bl _, H, I, rfl, ?_⟩)⟩))
  rw [place2]
  exact q
def xNIR2 (hi : Int) (wl wa : DE) (δ : DEnv) (Q : Sl → DEnv → Prop) : Prop := wa δ fun r δ1 => withI (rd δ1 r) fun z => wl δ1 fun r2 δ2 => withI (rd δ2 r2) fun lo => (hi - lo).natAbs < 1000 ∧ Q (.pub (.bool (!decide (lo ≤ z ∧ z < hi ∧ (z - lo) % 2 = 0)))) δ2
@[simp ↓] theorem xNIR2_s (hi : Int) (δ : DEnv) (Q : Sl → DEnv → Prop) : xNIR2 hi wl wa δ Q = wa δ fun r δ1 => withI (rd δ1 r) fun z => wl δ1 fun r2 δ2 => withI (rd δ2 r2) fun lo => (hi - lo).natAbs < 1000 ∧ Q (.pub (.bool (!decide (lo ≤ z ∧ z < hi ∧ (z - lo) % 2 = 0)))) δ2 := rfl
theorem d_nir2 {hi : Int} {j1 j2} {p1 p2 p3 pos3 : Pos} {c : Expr} (hg : Gl X "range") (hm : X.mg "range" = none) (ha : PE X e (lE F X.K wa)) (hl : PE X c (lE F X.K wl))
    (h1 : starEach [c, .Constant (.int hi) j1 p1, .Constant (.int 2) j2 p2] X.env = (false, eval c X.env) :: starEach [.Constant (.int hi) j1 p1, .Constant (.int 2) j2 p2] X.env := by rfl)
    (hmk : behindInMarks .NotIn (.Call (.Name "range" p3) [c, .Constant (.int hi) j1 p1, .Constant (.int 2) j2 p2] [] pos3) = false := by first | exact nomark _ | rfl) :
    PE X (.Compare e [.NotIn] [.Call (.Name "range" p3) [c, .Constant (.int hi) j1 p1, .Constant (.int 2) j2 p2] [] pos3] pos) (lE F X.K (xNIR2 hi wl wa)) := by
  refine PE.imp (pe_cmpR op_notin_rng2 ha (pe_callTy cr_range3 hg hm (by decide +kernel) (pa_cons hl (pa_cons pe_int (pa_cons pe_int pa_nil)) h1) (he := h1)) hmk) fun σ H Q ⟨C, δ, U, k, e1, e2, en, w, q⟩ => ?_
  refine ⟨C, δ, U, _, e1, e2, en, w, fun r δ1 w1 v1 H1 U1 s1 en1 o1 => ?_⟩
  obtain ⟨U1', s1', en1', g1⟩ := hold_of en1 o1
  rw [withI_ex] at w1
  obtain ⟨z, hz, w1⟩ := w1
  obtain rfl := int_of en1' g1 hz
  refine ⟨C, δ1, U1', _, e1, e2, en1', w1, fun r2 δ2 w2 v2 H2 U2 s2 en2 o2 => ?_⟩
  obtain ⟨U2', s2', en2', g2⟩ := hold_of en2 o2
  rw [withI_ex] at w2
  obtain ⟨lo, hz2, hb, w2⟩ := w2
  obtain rfl := int_of en2' g2 hz2
  refine ⟨lo, hi, rfl, hb, fun p hp => ⟨z, p, lo, hi, rfl, rfl, upd_same, ?_⟩⟩
  have x : ExtK C H2 U2' (upd H2 p (RngX p lo hi 2)) U2' := Ext.priv en2'.wd hp
  exact q _ δ2 w2 _ _ U2' (s1.trans (s1'.trans (s2.trans s2'))) (en2'.ext x) (rs_new en2' x (show Dd _ _ _ _ from .bl _))
end
end DX

namespace DX
open PySem PySem.Spec L2 KX
open PyProof.Rows hiding St
/-! a dict beside a text -/
theorem dictEq_no (l : Addr) (es : Array DictEntry) (ep : Nat) (dd : Option Addr) (sl : Array (Option Value)) (b : Str) (u : Tok) :
    Meets (Builtin.«dict.__eq__» ⟨[.ref l, .str b u], []⟩) (fun _ R s => s.heap.get? l = some { cls := .type "dict", dict := dd, data := .dict es ep, slots := sl } ∧ R (.ok (.ret .notImplemented)) s) :=
  .of_wp fun prog w A R s h => by
    obtain ⟨hp, g, d, tk, os⟩ := s
    obtain ⟨hl, h⟩ := h
    have f1 := F.sub_str_dict
    wp_walk using AutoSeq1.wpAny_loadPart' hl, wpAny_load hl
    exact ⟨_, rfl, h⟩
theorem strEq_no (b : Str) (u : Tok) (l : Addr) (es : Array DictEntry) (ep : Nat) (dd : Option Addr) (sl : Array (Option Value)) :
    Meets (Builtin.«str.__eq__» ⟨[.str b u, .ref l], []⟩) (fun _ R s => s.heap.get? l = some { cls := .type "dict", dict := dd, data := .dict es ep, slots := sl } ∧ R (.ok (.ret .notImplemented)) s) :=
  .of_wp fun prog w A R s h => by
    obtain ⟨hp, g, d, tk, os⟩ := s
    obtain ⟨hl, h⟩ := h
    wp_walk using AutoSeq1.wpAny_loadPart' hl, wpAny_load hl
    exact ⟨_, rfl, h⟩
theorem dict_str {A : Around} {s : Shared} {l : Addr} {o : Obj} {es : Array DictEntry} {ep : Nat} (b : Str) (u : Tok) (ho : s.heap.get? l = some o) (hx : o.ExactDict) (hd : o.data = .dict es ep) (hu : A.units < cLine) : SeqAt.EqAt A s (.ref l) (.str b u) false := fun prog w E Q h => by
  obtain ⟨cls, dd, data, sl⟩ := o
  obtain ⟨hc, h2, h3⟩ := hx
  simp only at hc h2 h3 hd
  subst hc h2 h3 hd
  unfold eqBool
  refine wpAny_holding ?_
  refine wpAny_ite_split (fun hab => absurd (eq_of_beq hab) nofun) (fun _ => ?_)
  refine wpAny_bind (SeqAt.rc_eq_decline_or (k := false) ⟨_, ho, rfl⟩ (typeIs_str s b u) (by decide) F.sub_str_dict F.slot_dict_eq F.slot_str_eq_refl
    (fun _ hq => call_meets F.slot_dict_eq ⟨_, ho, rfl⟩ F.entry_dict_eq (F.args_dict_eq_2 _ _) (dictEq_no l es ep _ _ b u) ⟨ho, hq⟩)
    (fun _ hq => call_meets F.slot_str_eq_refl (typeIs_str s b u) F.entry_str_eq (F.args_str_eq_2 _ _) (strEq_no b u l es ep _ _) ⟨ho, hq⟩)
    (fun _ hq => wpAny_of_eq (rfl : isSame (.ref l) (.str b u) = pure false) hq) (.inr hu) (wpAny_truthy_bool h))
/-! (d, ..) == ('text',) -/
def isS (s : Str) : PyData → Bool
  | .str x => x == s
  | _ => false
def eqS (ds : List PyData) (s : Str) : Bool := match ds with
  | [d] => isS s d
  | _ => false
section
variable {X : Cx} {F : Fam}
theorem leafS {pins : List (Addr × Obj)} {σ : L2.St} {H : Hp} {s : Shared} {v : V} {u : Value} {d : PyData} {n : Nat} (I : Inv X pins σ H s) (h : Dd X.K H v d) (r : RelV v u) (x : Str) (t : Tok) : PySem.W.EqTree X.prog X.w s n u (.str x t) (isS x d) := by
  refine .leaf fun A hu => ?_
  have hu0 : A.units < cLine := by omega
  cases h with
  | non => cases r; exact SeqAt.EqAt.none_str x t
  | bl b => cases r; exact SeqAt.EqAt.bool_str b x t
  | int i => obtain ⟨k, rfl⟩ := r; exact SeqAt.EqAt.int_str i k x t
  | str y => obtain ⟨k, rfl⟩ := r; exact SeqAt.EqAt.str_str y k x t
  | lst h _ =>
    cases r
    obtain ⟨its, _, pl, _⟩ := I.list (SqL.of h)
    exact SeqAt.EqAt.list_str x t pl.isList hu0
  | tup h _ =>
    cases r
    obtain ⟨its, _, tp, _⟩ := I.tuple h.sq
    exact SeqAt.EqAt.tuple_str x t tp hu0
  | dct h =>
    cases r
    obtain ⟨_, _, vs, _, o, es, ep, ho, hx, hd, _⟩ := (show ObjOk X.prog X.w H s.heap _ (.dK _) from I.hok _ _ h)
    exact dict_str x t ho hx hd hu0
def rEqS (K : PySem.W.Frag) : R2 := fun x y H Q => ∃ (a b : Addr) (xs : List V) (ds : List PyData) (z : Str), x = .ref a ∧ y = .ref b ∧ SqT K H a xs ∧ DdAll K H xs ds ∧ SqT K H b [.str z] ∧ Q (.bl (eqS ds z)) H
theorem op_eqS (hu : X.A.units + 64 < cLine) : OpR X (compareOp .Eq) (rEqS X.K) := by
  intro pins s σ H x y v u Q I rx ry h
  obtain ⟨a, b, xs, ds, z, rfl, rfl, ha, hd, hb, q⟩ := h
  cases rx
  cases ry
  obtain ⟨its, r1, p1, _⟩ := I.tuple ha
  obtain ⟨jts, r2, p2, _⟩ := I.tuple hb
  obtain ⟨w1, rfl, t, rfl⟩ := vals1 r2
  have hl : its.length = ds.length := by rw [← r1.length, hd.len]
  refine PySem.W.eq_tuplesT (n := 3) (e := fun j => match ds[j]? with | some d => isS z d | none => false) p1 p2 (fun j h1 h2 => ?_) (by omega) ⟨.bl (eqS ds z), H, I, ?_, q⟩
  · have hj : j = 0 := by simp at h2; omega
    subst hj
    have h1' : 0 < its.length := by simpa using h1
    cases its with
    | nil => simp at h1'
    | cons u0 its =>
      cases r1 with
      | cons ru r1 =>
        cases hd with
        | cons hd0 hd => exact leafS I hd0 ru z t
  · show _ = _
    cases ds with
    | nil =>
      have : its = [] := List.length_eq_zero_iff.mp (by simpa using hl)
      subst this
      rfl
    | cons d ds =>
      cases ds with
      | nil =>
        have hl : its.length = 1 := by simpa using hl
        simp [eqS, hl]
      | cons d2 ds =>
        have hl : its.length = ds.length + 2 := by simpa using hl
        simp [eqS, hl]
def oEqS : O2
  | .tuple ds, .tuple [.str z], k => k (.pub (.bool (eqS ds z)))
  | _, _, _ => False
@[simp ↓] theorem oEqS_s (ds : List PyData) (z : Str) (k : Sl → Prop) : oEqS (.tuple ds) (.tuple [.str z]) k = k (.pub (.bool (eqS ds z))) := rfl
theorem oEqS_cases {d e : PyData} {k : Sl → Prop} (h : oEqS d e k) : ∃ ds z, d = .tuple ds ∧ e = .tuple [.str z] ∧ k (.pub (.bool (eqS ds z))) := by
  unfold oEqS at h
  split at h
  · exact ⟨_, _, rfl, rfl, h⟩
  · exact h.elim
theorem s_eqS (hu : X.A.units + 64 < cLine) : OpS F X (compareOp .Eq) oEqS := ⟨_, op_eqS hu, fun C H U x y d e k Q e1 e2 w rx ry h q => by
  obtain ⟨ds, z, rfl, rfl, h⟩ := oEqS_cases h
  obtain ⟨a, xs, rfl, h1, h2, _⟩ := rx.tup w
  obtain ⟨b, ys, rfl, h3, h4, _⟩ := ry.tup w
  cases h4 with
  | cons hz h4 =>
    cases hz
    cases h4
    exact ⟨a, b, xs, ds, z, rfl, rfl, e1 ▸ h1, e1 ▸ h2.same w.sub, e1 ▸ h3, fin_pub w (.bl _) h q⟩⟩
/-! [..] != [] -/
def rNeL0 (K : PySem.W.Frag) : R2 := fun x y H Q => ∃ (a b : Addr) (xs : List V), x = .ref a ∧ y = .ref b ∧ SqL K H a xs ∧ SqL K H b [] ∧ Q (.bl (!xs.isEmpty)) H
theorem op_neL0 (hu : X.A.units + 64 < cLine) : OpR X (compareOp .NotEq) (rNeL0 X.K) := by
  intro pins s σ H x y v u Q I rx ry h
  obtain ⟨a, b, xs, rfl, rfl, ha, hb, q⟩ := h
  cases rx
  cases ry
  obtain ⟨its, r1, p1, _⟩ := I.list ha
  obtain ⟨jts, r2, p2, _⟩ := I.list hb
  cases r2
  cases xs with
  | nil =>
    cases r1
    exact SeqAt.RcNeAt.lists (e := fun _ => true) p1.isList p2.isList rfl (by omega) (fun j h1 _ => absurd h1 (by simp)) X.prog X.w _ _ ⟨.bl false, H, I, rfl, q⟩
  | cons x xs =>
    cases r1 with
    | cons _ r1 => exact SeqAt.RcNeAt.lists_lengths p1.isList p2.isList (by simp) (by omega) X.prog X.w _ _ ⟨.bl true, H, I, rfl, q⟩
def oNeL0 : O2
  | .list ds, .list [], k => k (.pub (.bool (!ds.isEmpty)))
  | _, _, _ => False
@[simp ↓] theorem oNeL0_s (ds : List PyData) (k : Sl → Prop) : oNeL0 (.list ds) (.list []) k = k (.pub (.bool (!ds.isEmpty))) := rfl
theorem oNeL0_cases {d e : PyData} {k : Sl → Prop} (h : oNeL0 d e k) : ∃ ds, d = .list ds ∧ e = .list [] ∧ k (.pub (.bool (!ds.isEmpty))) := by
  unfold oNeL0 at h
  split at h
  · exact ⟨_, rfl, rfl, h⟩
  · exact h.elim
theorem s_neL0 (hu : X.A.units + 64 < cLine) : OpS F X (compareOp .NotEq) oNeL0 := ⟨_, op_neL0 hu, fun C H U x y d e k Q e1 e2 w rx ry h q => by
  obtain ⟨ds, rfl, rfl, h⟩ := oNeL0_cases h
  obtain ⟨a, xs, rfl, h1, h2⟩ := rx.list w
  obtain ⟨b, ys, rfl, h3, h4⟩ := ry.list w
  cases h4
  have : xs.isEmpty = ds.isEmpty := by cases h2 <;> rfl
  exact ⟨a, b, xs, rfl, rfl, SqL.of h1, SqL.of h3, fin_pub w (by rw [this]; exact .bl _) h q⟩⟩
end
/-! isinstance(x, str) -/
def isStrD : PyData → Bool
  | .str _ => true
  | _ => false
theorem kb_str_NoneType : kitB "NoneType" "str" = some false := by decide +kernel
theorem kb_str_bool : kitB "bool" "str" = some false := by decide +kernel
theorem kb_str_int : kitB "int" "str" = some false := by decide +kernel
theorem kb_str_str : kitB "str" "str" = some true := by decide +kernel
theorem kb_str_list : kitB "list" "str" = some false := by decide +kernel
theorem kb_str_tuple : kitB "tuple" "str" = some false := by decide +kernel
theorem kb_str_dict : kitB "dict" "str" = some false := by decide +kernel
theorem kit_str {K : PySem.W.Frag} : ∀ dd : PyData, PySem.W.kitOne K (.type (tyN dd)) (.type "str") = some (isStrD dd)
  | .none => kit_ty kb_str_NoneType | .bool _ => kit_ty kb_str_bool | .int _ => kit_ty kb_str_int | .str _ => kit_ty kb_str_str | .list _ => kit_ty kb_str_list | .tuple _ => kit_ty kb_str_tuple | .dict _ => kit_ty kb_str_dict
end DX

namespace DX
open PySem PySem.Spec L2 KX
open PyProof.Rows hiding St
section
variable {X : Cx} {F : Fam} {apos cpos : Pos} {a b : Expr} {wa wb : DE}
/-! t.index(k), t a tuple of ints, k among them -/
def xIdxT (wa wb : DE) (δ : DEnv) (Q : Sl → DEnv → Prop) : Prop := wa δ fun r δ1 => ∃ ns : List Int, rd δ1 r = some (.tuple (ns.map .int)) ∧ wb δ1 fun r2 δ2 => withI (rd δ2 r2) fun k => k ∈ ns ∧ Q (.pub (.int (ns.idxOf k : Nat))) δ2
@[simp ↓] theorem xIdxT_s (δ : DEnv) (Q : Sl → DEnv → Prop) : xIdxT wa wb δ Q = wa δ fun r δ1 => ∃ ns : List Int, rd δ1 r = some (.tuple (ns.map .int)) ∧ wb δ1 fun r2 δ2 => withI (rd δ2 r2) fun k => k ∈ ns ∧ Q (.pub (.int (ns.idxOf k : Nat))) δ2 := rfl
theorem d_indexT (hu : X.A.units + 200 < cLine) (ha : PE X a (lE F X.K wa)) (hb : PE X b (lE F X.K wb)) (hbase : attributeBase a "index" X.env (eval a X.env) = eval a X.env := by rfl)
    (hfew : ((backTo cpos (starEach [b] X.env)).all (fun x => !x.1) && (backToKw cpos (keywordEach [] X.env)).all (fun x => x.1.isSome)
      && decide ([b].length + ([] : List Keyword).length + (if ([] : List Keyword).isEmpty then 0 else 1) < 30)) = true := by rfl)
    (hline : (apos.endLine == cpos.line) = true := by rfl) (hs : starEach [b] X.env = (false, eval b X.env) :: starEach [] X.env := by rfl) (hplain : (backTo cpos (starEach [] X.env)).any (·.1) = false := by rfl) :
    PE X (.Call (.Attribute a "index" apos) [b] [] cpos) (lE F X.K (xIdxT wa wb)) := by
  refine PE.imp (pe_idxB ha hb hbase hfew hline hs hplain) fun σ H Q ⟨C, δ, U, k, e1, e2, en, w, q⟩ => ?_
  refine ⟨C, δ, U, _, e1, e2, en, w, fun r δ1 w1 v1 H1 U1 s1 en1 o1 => ?_⟩
  obtain ⟨U1', s1', en1', g⟩ := hold_of en1 o1
  obtain ⟨ns, hr, w1⟩ := w1
  rcases rdb_of en1' g hr with hd | ⟨_, _, _, _, z, _⟩
  · cases hd with
    | tup ht hall =>
      obtain rfl := hall.ints
      refine ⟨_, ns, rfl, ht.same en1'.wd.sub, C, δ1, U1', _, e1, e2, en1', w1, fun r2 δ2 w2 v2 H2 U2 s2 en2 o2 => ?_⟩
      obtain ⟨U2', s2', en2', g2⟩ := hold_of en2 o2
      rw [withI_ex] at w2
      obtain ⟨z, hz, hm, w2⟩ := w2
      obtain rfl := int_of en2' g2 hz
      exact ⟨z, rfl, (ht.same ((s2.trans s2').trans en2'.wd.sub)).sq, hm, q _ δ2 w2 _ H2 U2' (s1.trans (s1'.trans (s2.trans s2'))) en2' (show Dd _ _ _ _ from .int _)⟩
  · cases z
end
end DX

namespace LW
open PySem PySem.Spec L2 KX DX MX
open PyProof.Rows hiding St
def betwD (d : PyData) (lo hi : Int) : Bool := match d with
  | .int i => decide (lo ≤ i) && decide (i ≤ hi)
  | _ => false
def keyD (d : PyData) : Bool := betwD d 0 1000000000000
def Sis_integer_between : DF := fun as k => ∃ (d : PyData) (lo hi : Int), as = [.pub d, .pub (.int lo), .pub (.int hi)] ∧ k (.pub (.bool (betwD d lo hi)))
def Sis_key : DF := fun as k => ∃ d : PyData, as = [.pub d] ∧ k (.pub (.bool (keyD d)))
abbrev wis_integer_between : DS := (sRet (xAnd (xCall Sis_plain_integer (aC (xP (xV 0)) aN)) (xCh oLe oLe (xV 1) (xV 0) (xV 2))))
abbrev wis_key : DS := (sRet (xCall Sis_integer_between (aC (xP (xV 0)) (aC (xP (xC (.int 0))) (aC (xP (xC (.int 1000000000000))) aN)))))
theorem len_is_integer_between : ∀ as k, Sis_integer_between as k → as.length = 3 := by rintro _ k ⟨d, lo, hi, rfl, _⟩; rfl
theorem dd_is_integer_between : ∀ as k, Sis_integer_between as k → wis_integer_between { nx := fun _ => k (.pub .none), rt := k } (as ++ List.replicate (3 - as.length) .emp) := by
  rintro _ k ⟨d, lo, hi, rfl, q⟩
  simp
  refine ⟨d, rfl, ?_⟩
  cases d with
  | int i =>
    simp [plainD]
    unfold betwD at q
    by_cases h : lo ≤ i
    · simp [h] at q ⊢; exact q
    · simp [h] at q ⊢; exact q
  | _ => simp [plainD]; exact q
theorem len_is_key : ∀ as k, Sis_key as k → as.length = 1 := by rintro _ k ⟨d, rfl, _⟩; rfl
theorem dd_is_key : ∀ as k, Sis_key as k → wis_key { nx := fun _ => k (.pub .none), rt := k } (as ++ List.replicate (1 - as.length) .emp) := by
  rintro _ k ⟨d, rfl, q⟩
  simp
  exact ⟨d, 0, 1000000000000, rfl, by simpa [keyD] using q⟩
end LW

namespace DX
open PySem PySem.Spec L2 KX
open PyProof.Rows hiding St
/-! readings that change nothing, said at once (nested displays) -/
def PureE (δ : DEnv) (w : DE) (d : PyData) : Prop := ∀ Q : Sl → DEnv → Prop, Q (.pub d) δ → w δ Q
def PureA (δ : DEnv) (ws : DA) (ds : List PyData) : Prop := ∀ Q : List Sl → DEnv → Prop, Q (ds.map .pub) δ → ws δ Q
section
variable {δ : DEnv} {w wb : DE} {ws : DA} {d e z : PyData} {ds : List PyData}
theorem pu_c : PureE δ (xC d) d := fun Q h => h
theorem pu_v {i : Nat} (h : δ[i]? = some (.pub d)) : PureE δ (xV i) d := fun Q q => by
  unfold xV; rw [h]; exact q
theorem pu_p (h : PureE δ w d) : PureE δ (xP w) d := fun Q q => h _ q
theorem pu_1 {f : O1} (h : PureE δ w d) (hf : ∀ k : Sl → Prop, k (.pub e) → f d k) : PureE δ (x1 f w) e := fun Q q => h _ ⟨d, rfl, hf _ q⟩
theorem pu_2 {f : O2} (h : PureE δ w d) (h2 : PureE δ wb e) (hf : ∀ k : Sl → Prop, k (.pub z) → f d e k) : PureE δ (x2 f w wb) z := fun Q q => h _ (h2 _ ⟨d, e, rfl, rfl, hf _ q⟩)
theorem pu_nil : PureA δ aN [] := fun Q h => h
theorem pu_cons (h : PureE δ w d) (hs : PureA δ ws ds) : PureA δ (aC (xP w) ws) (d :: ds) := fun Q q => (pu_p h) _ (hs _ q)
theorem pu_tup (h : PureA δ ws ds) (hl : ds.length ≤ 10000) : PureE δ (xTup ws) (.tuple ds) := fun Q q => h _ ⟨ds, pubs_map' ds, hl, q⟩
/-- a list display that is walked at once -/
theorem pu_walk (h : PureA δ ws ds) (hl : ds.length ≤ 10000) {Q : List PyData → DEnv → Prop} (q : Q ds δ) : iX (xLst ws) δ Q := by
  show xP (xLst ws) δ _
  exact h _ ⟨ds, pubs_map' ds, hl, ds, .inl rfl, q⟩
/-- a list display that is kept or compared -/
theorem pu_lst (h : PureA δ ws ds) (hl : ds.length ≤ 10000) {Q : Sl → DEnv → Prop} (q : Q (.own ds) δ) : xLst ws δ Q := h _ ⟨ds, pubs_map' ds, hl, q⟩
theorem pu_lstP (h : PureA δ ws ds) (hl : ds.length ≤ 10000) : PureE δ (xP (xLst ws)) (.list ds) := fun Q q => h _ ⟨ds, pubs_map' ds, hl, q⟩
theorem pu_consL {vs : DA} {es : List PyData} (h : PureA δ vs es) (hl : es.length ≤ 10000) (hs : PureA δ ws ds) : PureA δ (aC (xP (xLst vs)) ws) (.list es :: ds) := fun Q q => (pu_lstP h hl) _ (hs _ q)
theorem pu_for {g : DG} {b : DS} {D : DEnds} (h : PureA δ ws ds) (hl : ds.length ≤ 10000) (q : forGo g b D ds δ) : sFor (iX (xLst ws)) g b D δ := pu_walk h hl q
end
/-! t[::-1] of a tuple -/
def tRevTB (K : PySem.W.Frag) (te : TE) (ts : TO) : TE := fun σ H Q => te σ H fun x H1 => ts σ H1 fun t H4 => t = some (-1) ∧ ∃ a xs, x = .ref a ∧ SqT K H4 a xs ∧ NewT H4 xs.reverse Q
section
variable {X : Cx} {F : Fam}
theorem pe_revTB {e s1 : Expr} {te : TE} {ts : TO} {p2 pos : Pos} (he : PE X e te) (hs : PO X (some s1) ts) : PE X (.Subscript e (.Slice none none (some s1) p2) pos) (tRevTB X.K te ts) := by
  constructor
  intro pins s σ H Q I h
  refine Subscript_ (thn (he.run pins s σ H _ I h) fun v s1 ⟨x, H1, I1, r1, q1⟩ => ?_)
  refine wpAny_Slice ?_
  rw [evalPart_none]
  refine wpAny_pure (wpAny_pure (thn (hs.run pins s1 σ H1 _ I1 q1) fun vt s4 ⟨t, H4, I4, pt, hn, a, xs, ex, hx, q⟩ => ?_))
  subst ex hn
  cases r1
  cases pt with
  | int i tk =>
  have I5 : L2.Inv X pins σ H4 { s4 with heap := s4.heap.push { cls := .type "slice", data := .fields #[.none, .none, .int (-1) tk] } } := I4.kept (t' := s4.toks) fun b o z => Heap.get?_push_of_some _ z
  obtain ⟨its, r, ht, hz⟩ := I5.tuple hx
  have hlen := r.length
  refine tail_any (ops := [.ref a, .ref s4.heap.objs.size]) ht.typeIs (PyProof.Rows.slot_tuple_getitem.lookup) ?_ (by with_unfolding_all rfl)
  refine getItem_tuple_rev ht (Heap.IsSliceOf.new _ .none .none (.int (-1) tk)) ?_ (by rw [List.size_toArray]; omega)
  exact bare_end (tk := s4.toks) I5 (by rw [List.length_reverse]; omega) (vals_rev r) q
def xRvT (w : DE) (ws : DO) (δ : DEnv) (Q : Sl → DEnv → Prop) : Prop := w δ fun r δ1 => ws δ1 fun st δ4 => st = some (-1) ∧ withT (rd δ4 r) fun ds => Q (.pub (.tuple ds.reverse)) δ4
@[simp ↓] theorem xRvT_s (w : DE) (ws : DO) (δ : DEnv) (Q : Sl → DEnv → Prop) : xRvT w ws δ Q = w δ fun r δ1 => ws δ1 fun st δ4 => st = some (-1) ∧ withT (rd δ4 r) fun ds => Q (.pub (.tuple ds.reverse)) δ4 := rfl
theorem d_rvT {e s1 : Expr} {wa : DE} {ws : DO} {p2 pos : Pos} (he : PE X e (lE F X.K wa)) (hst : PO X (some s1) (lO F X.K ws)) : PE X (.Subscript e (.Slice none none (some s1) p2) pos) (lE F X.K (xRvT wa ws)) := PE.imp (pe_revTB he hst) fun σ H Q ⟨C, δ, U, k, e1, e2, en, w, q⟩ => by
  refine ⟨C, δ, U, _, e1, e2, en, w, fun r δ' hk v H' U0 s0 en0 o => ?_⟩
  obtain ⟨U', s1, en', ho⟩ := hold_of en0 o
  refine ⟨C, δ', U', _, e1, e2, en', hk, fun t δ4 hk4 H4 U4 s4 en4 => ?_⟩
  obtain ⟨h0, hk4⟩ := hk4
  rw [withT_ex] at hk4
  obtain ⟨ds, hr, hk4⟩ := hk4
  rcases rdb_of en4 (ho.mono s4) hr with g | ⟨_, _, _, _, g, _⟩
  · cases g with
    | tup ht ha =>
      rename_i a vs
      refine ⟨h0, a, vs, rfl, e1 ▸ (ht.same en4.wd.sub).sq, fun p ob hp hb => ?_⟩
      have x4 : ExtK C H4 U4 (upd H4 p (.frz ob (.tup vs.reverse))) (upd U4 p (.frz ob (.tup vs.reverse))) := Ext.pub en4.wd hp
      exact q (.pub (.tuple ds.reverse)) δ4 hk4 _ _ _ (s0.trans (s1.trans (s4.trans x4.us))) (en4.ext x4) (show Dd _ _ _ _ from .tup (BqT.of hb) (ha.rev.same x4.us))
  · cases g
end
end DX

namespace DX
open PySem PySem.Spec L2 KX
open PyProof.Rows hiding St
section
variable {X : Cx} {F : Fam} {pos : Pos} {es : List Expr}
/-! x, y = a list -/
def gL (l : List DG) (r : Sl) (δ : DEnv) (Q : DEnv → Prop) : Prop := ∃ ds, rd δ r = some (.list ds) ∧ ds.length = l.length ∧ gs l ds δ Q
@[simp ↓] theorem gL_s (l : List DG) (r : Sl) (δ : DEnv) (Q : DEnv → Prop) : gL l r δ Q = withL (rd δ r) fun ds => ds.length = l.length ∧ gs l ds δ Q := by simp only [gL, withL_ex]
theorem d_glst {x1} {l : List DG} {b : Bool} (hc : X.calm = true) (h : PGs X es (lGs F X.K l)) (hn : (assignEach es X.env).length = l.length := by rfl) (hst : (assignEach es X.env).findIdx? (·.1) = none := by rfl) : PG X (.Tuple es x1 pos) (lG F X.K b (gL l)) := by
  refine PG.imp (pg_lst (n := l.length) hc h hn hst) fun v σ H Q ⟨C, δ, U, k, r, e1, e2, en, o, hg, q⟩ => ?_
  obtain ⟨ds, h1, h2, h3⟩ := hg
  have go : RsOk C σ δ H U v r → gLst X.K l.length (lGs F X.K l) v σ H Q := fun o => by
    obtain ⟨U', s', en', ho⟩ := hold_of en o
    obtain ⟨a, vs, rfl, g1, g2⟩ := (rdb_of en' ho h1).list en'.wd
    exact ⟨_, _, rfl, SqL.of g1, by rw [g2.len, h2], C, δ, U', ds, k, e1, e2, en', g2, h3, fun δ2 hk2 σ2 H2 U2 s2 en2 => q δ2 hk2 σ2 H2 U2 (s'.trans s2) en2⟩
  cases r with
  | pub d =>
    rcases o with o | ⟨_, a, xs, es', rfl, rfl, ht, ha⟩
    · exact go o
    · cases h1
  | _ => exact go o
/-! list(range(n)), list(range(i, j)) -/
variable {e a b : Expr} {wa wb : DE} {p p2 pos2 : Pos}
theorem rgV_eq (i j : Int) : rgV i j = ((List.range (j - i).toNat).map fun x : Nat => i + (x : Int)).map V.int := by
  unfold rgV; rw [List.map_map]; rfl
theorem rngD_eq (i j : Int) : rngD i (j - i).toNat = ((List.range (j - i).toNat).map fun x : Nat => i + (x : Int)).map PyData.int := by
  unfold rngD; rw [List.map_map]; rfl
def xLR1 (wa : DE) (δ : DEnv) (Q : Sl → DEnv → Prop) : Prop := wa δ fun r δ1 => withI (rd δ1 r) fun n => -100000 ≤ n ∧ n ≤ 10000 ∧ Q (.own (rngD 0 n.toNat)) δ1
@[simp ↓] theorem xLR1_s (δ : DEnv) (Q : Sl → DEnv → Prop) : xLR1 wa δ Q = wa δ fun r δ1 => withI (rd δ1 r) fun n => -100000 ≤ n ∧ n ≤ 10000 ∧ Q (.own (rngD 0 n.toNat)) δ1 := rfl
theorem d_lr1 (hc : X.calm = true) (hgl : Gl X "list") (ml : X.mg "list" = none) (hgr : Gl X "range") (mr : X.mg "range" = none) (ha : PE X a (lE F X.K wa)) (h1 : starEach [a] X.env = (false, eval a X.env) :: starEach [] X.env := by rfl)
    (h2 : starEach [.Call (.Name "range" p2) [a] [] pos2] X.env = (false, eval (.Call (.Name "range" p2) [a] [] pos2) X.env) :: starEach [] X.env := by rfl) :
    PE X (.Call (.Name "list" p) [.Call (.Name "range" p2) [a] [] pos2] [] pos) (lE F X.K (xLR1 wa)) := by
  refine PE.imp (pe_listRg hc hgl ml (prg_1 hgr mr ha h1) h2) fun σ H Q ⟨C, δ, U, k, e1, e2, en, w, q⟩ => ?_
  refine ⟨C, δ, U, _, e1, e2, en, w, fun r δ1 w1 v1 H1 U1 s1 en1 o1 => ?_⟩
  obtain ⟨U1', s1', en1', g⟩ := hold_of en1 o1
  rw [withI_ex] at w1
  obtain ⟨n, hn, b1, b2, w1⟩ := w1
  obtain rfl := int_of en1' g hn
  refine ⟨n, rfl, ⟨by decide, by decide, by omega, by omega, ?_⟩, fun p' hp' => ?_⟩
  · have : (2 : Nat) ^ 24 = 16777216 := by decide
    omega
  have e3 := rgV_eq 0 n
  have e4 := rngD_eq 0 n
  rw [Int.sub_zero] at e3 e4
  rw [e4] at w1
  rw [e3]
  have x2 : ExtK C H1 U1' (upd H1 p' (.lst (((List.range n.toNat).map fun x : Nat => (0 : Int) + (x : Int)).map V.int))) U1' := Ext.priv en1'.wd hp'
  exact q _ δ1 w1 _ _ U1' (s1.trans s1') (en1'.ext x2) (rs_new en1' x2 ⟨p', rfl, hp', en1'.wd.noneU hp', _, upd_same, ddAll_ints _⟩)
def xLR2 (wa wb : DE) (δ : DEnv) (Q : Sl → DEnv → Prop) : Prop := wa δ fun r δ1 => withI (rd δ1 r) fun i => wb δ1 fun r2 δ2 => withI (rd δ2 r2) fun j => -100000 ≤ i ∧ i ≤ 100000 ∧ -100000 ≤ j ∧ j ≤ 100000 ∧ Q (.own (rngD i (j - i).toNat)) δ2
@[simp ↓] theorem xLR2_s (δ : DEnv) (Q : Sl → DEnv → Prop) : xLR2 wa wb δ Q = wa δ fun r δ1 => withI (rd δ1 r) fun i => wb δ1 fun r2 δ2 => withI (rd δ2 r2) fun j => -100000 ≤ i ∧ i ≤ 100000 ∧ -100000 ≤ j ∧ j ≤ 100000 ∧ Q (.own (rngD i (j - i).toNat)) δ2 := rfl
theorem d_lr2 (hc : X.calm = true) (hgl : Gl X "list") (ml : X.mg "list" = none) (hgr : Gl X "range") (mr : X.mg "range" = none) (ha : PE X a (lE F X.K wa)) (hb : PE X b (lE F X.K wb)) (h1 : starEach [a, b] X.env = (false, eval a X.env) :: starEach [b] X.env := by rfl) (h1b : starEach [b] X.env = (false, eval b X.env) :: starEach [] X.env := by rfl)
    (h1c : (backTo pos2 (starEach [b] X.env)).any (·.1) = false := by rfl) (h2 : starEach [.Call (.Name "range" p2) [a, b] [] pos2] X.env = (false, eval (.Call (.Name "range" p2) [a, b] [] pos2) X.env) :: starEach [] X.env := by rfl) :
    PE X (.Call (.Name "list" p) [.Call (.Name "range" p2) [a, b] [] pos2] [] pos) (lE F X.K (xLR2 wa wb)) := by
  refine PE.imp (pe_listRg hc hgl ml (prg_2 hgr mr ha hb h1 h1b h1c) h2) fun σ H Q ⟨C, δ, U, k, e1, e2, en, w, q⟩ => ?_
  refine ⟨C, δ, U, _, e1, e2, en, w, fun r δ1 w1 v1 H1 U1 s1 en1 o1 => ?_⟩
  obtain ⟨U1', s1', en1', g⟩ := hold_of en1 o1
  rw [withI_ex] at w1
  obtain ⟨i, hi, w1⟩ := w1
  obtain rfl := int_of en1' g hi
  refine ⟨C, δ1, U1', _, e1, e2, en1', w1, fun r2 δ2 w2 v2 H2 U2 s2 en2 o2 => ?_⟩
  obtain ⟨U2', s2', en2', g2⟩ := hold_of en2 o2
  rw [withI_ex] at w2
  obtain ⟨j, hj, b1, b2, b3, b4, w2⟩ := w2
  obtain rfl := int_of en2' g2 hj
  refine ⟨i, j, rfl, rfl, ⟨by omega, by omega, by omega, by omega, ?_⟩, fun p' hp' => ?_⟩
  · have : (2 : Nat) ^ 24 = 16777216 := by decide
    omega
  rw [rngD_eq] at w2
  rw [rgV_eq]
  have x2 : ExtK C H2 U2' (upd H2 p' (.lst (((List.range (j - i).toNat).map fun x : Nat => i + (x : Int)).map V.int))) U2' := Ext.priv en2'.wd hp'
  exact q _ δ2 w2 _ _ U2' (s1.trans (s1'.trans (s2.trans s2'))) (en2'.ext x2) (rs_new en2' x2 ⟨p', rfl, hp', en2'.wd.noneU hp', _, upd_same, ddAll_ints _⟩)
end
end DX

namespace KX
open PySem PySem.Spec L2
open PyProof.Rows hiding St
/-! enumerate(s), s a text -/
def IteS (z : Str) : It :=
  ⟨fun i _ => i < z.cps.size, fun i H v H' => ∃ T c, v = .ref T ∧ H T = none ∧ H' = upd H T (.tup [.int (i : Nat), .str ⟨#[c]⟩]) ∧ z.cps[i]? = some c, fun i _ => z.cps.size = i⟩
theorem turnS {P : Program} {w : World} {K : PySem.W.Frag} {elts : List Expr} {kk : Nat} {tpos : Pos} (z : Str) (t : Tok) (e it : Addr) :
    Turn P w K (.Tuple elts kk tpos) (IteS z) [e, it] e (fun i h => (∃ old, IsEnum h e it ((i : Nat) : Int) old) ∧ h.IsStrIter it (strIterType z) z t i ∧ e ≠ it) where
  mem := List.mem_cons_self
  obj := fun i h st b hb => by
    obtain ⟨⟨old, he⟩, ⟨o, ho, hc, hd⟩, _⟩ := st
    rcases List.mem_cons.mp hb with z | z
    · subst z; exact ⟨_, he, fun v q => nomatch q⟩
    · obtain rfl : b = it := List.mem_singleton.mp z
      exact ⟨o, ho, fun v q => by rw [hd] at q; cases q⟩
  keep := fun i h h' st k => by
    obtain ⟨⟨old, he⟩, ⟨o, h1, h2⟩, hne⟩ := st
    exact ⟨⟨old, k e List.mem_cons_self _ he⟩, ⟨o, k it (List.mem_cons_of_mem _ List.mem_cons_self) o h1, h2⟩, hne⟩
  item := by
    intro X hP hw hK hc i pins s σ H E I hf st hg
    subst hP hw hK
    obtain ⟨⟨old, he⟩, hit, hne⟩ := st
    have hel : e < s.heap.objs.size := Heap.lt_size he
    have hil : it < s.heap.objs.size := by obtain ⟨_, q, _⟩ := hit; exact Heap.lt_size q
    have D := Draws.text (prog := X.prog) (w := X.w) (A := X.A.in1) (I.ok.hd hc) it z t
    refine wpAny_pyNext_enum_itemD (A := X.A) D he hit hg hne (fun z => hne (List.mem_singleton.mp z)) fun y h' tk hy ho st' hT hsz hk => ?_
    obtain ⟨c, u, hcc, rfl⟩ := hy
    refine ⟨_, rfl, wpAny_letOwnedTupleGo_enum (s := { s with heap := h', toks := tk + 1 }) ho fun h'' he' sb => ?_⟩
    have hT2 : h''.get? s.heap.objs.size = some { cls := .type "tuple", data := .seq #[.int i tk, .str ⟨#[c]⟩ u] } := (sb.2 _ (Nat.ne_of_gt hel)).trans hT
    have I1 : Inv X pins σ (upd H s.heap.objs.size (.tup [.int (i : Nat), .str ⟨#[c]⟩])) { s with heap := h'', toks := tk + 1 } := by
      refine I.turnedNew (ch := [e, it]) (fun b ob hb q => ?_) hf (Nat.le_refl _) (show ObjOk X.prog X.w _ h'' _ (.tup [.int (i : Nat), .str ⟨#[c]⟩]) from ⟨by show 2 ≤ sizeLine; decide, [.int i tk, .str ⟨#[c]⟩ u], .cons ⟨_, rfl⟩ (.cons ⟨_, rfl⟩ .nil), ⟨_, hT2, rfl, _, rfl⟩⟩)
      have b1 : b ≠ e := fun z => hb (z ▸ List.mem_cons_self)
      have b2 : b ≠ it := fun z => hb (z ▸ List.mem_cons_of_mem _ List.mem_cons_self)
      exact (sb.2 b b1).trans (hk b ob b1 b2 q)
    obtain ⟨o', g1, g2⟩ := st'
    refine ⟨.ref s.heap.objs.size, _, I1, rfl, ⟨_, c, rfl, I.hok.fresh (Nat.le_refl _), rfl, hcc⟩, ⟨⟨.str ⟨#[c]⟩ u, by rw [show ((i + 1 : Nat) : Int) = (i : Int) + 1 by omega]; exact he'⟩, ⟨o', (sb.2 it (Ne.symm hne)).trans g1, g2⟩, hne⟩, fun b hb => ?_⟩
    have hb' : b < s.heap.objs.size := by
      rcases List.mem_cons.mp hb with z | z
      · exact z ▸ hel
      · exact (List.mem_singleton.mp z) ▸ hil
    rw [upd_ne (Nat.ne_of_lt hb')]
    exact (hf b hb).1
  done := by
    intro X hP hw hK hc i pins s σ H E I hf st hg
    subst hP hw hK
    obtain ⟨⟨old, he⟩, hit, hne⟩ := st
    obtain ⟨f0, f1, f2, f3, f4, f5⟩ := hf it (List.mem_cons_of_mem _ List.mem_cons_self)
    have D := Draws.text (prog := X.prog) (w := X.w) (A := X.A.in1) (I.ok.hd hc) it z t
    have en : z.cps.size = i := hg
    rw [← en] at hit
    exact wpAny_pyNext_enum_endD (A := X.A) D he hit fun h' eb => ⟨rfl, I.turned (t' := s.toks) (fun b o hb q => eb b o hb q) f0 f1 f3 f4 f5⟩
  self := fun A i s Q E st h => by
    obtain ⟨⟨_, he⟩, _⟩ := st
    exact wpAny_pyIter_enum he h
def iEnumS (ta : TA) : TI := fun σ H R => ta σ H fun vs H1 => ∃ z, vs = [.str z] ∧ R (IteS z) H1
theorem pi_enumS {X : Cx} {e : Expr} {ta : TA} {p pos tpos : Pos} {elts : List Expr} {kk : Nat} (hg : Gl X "enumerate") (hm : X.mg "enumerate" = none) (ha : PA X [e] ta) (hs : starEach [e] X.env = [(false, eval e X.env)] := by rfl) :
    PI X (.Tuple elts kk tpos) (.Call (.Name "enumerate" p) [e] [] pos) (iEnumS ta) := by
  constructor
  intro pins s σ H R I h
  refine Call_ (ld_blt I hg hm boot_enumerate (PyProof.Rows.callWith_type1 (thn (ha.run pos pins s σ H _ I h) fun us s1 ⟨vs, H1, I1, r1, z, ex, q⟩ => ?_) hs rfl))
  subst ex
  obtain ⟨u, rfl, t, rfl⟩ := vals1 r1
  refine enumCall (begins_text z t) trivial fun h' he hit hk => wpAny_pyIter_enum he ?_
  have I2 : Inv X pins σ H1 { s1 with heap := h' } := I1.kept (t' := s1.toks) hk
  refine ⟨s1.heap.objs.size + 1, [s1.heap.objs.size + 1, s1.heap.objs.size], _, _, H1, rfl, I2, turnS z t (s1.heap.objs.size + 1) s1.heap.objs.size, ⟨⟨.none, he⟩, ⟨_, hit, rfl, rfl⟩, Nat.succ_ne_self _⟩, fun b hb => ?_, q⟩
  have hle : s1.heap.objs.size ≤ b := by
    rcases List.mem_cons.mp hb with z | z
    · rw [z]; exact Nat.le_succ _
    · rw [List.mem_singleton.mp z]; exact Nat.le_refl _
  exact I1.fpOk hle (I1.hok.fresh hle)
theorem walk_enumS {z : Str} : Walk (IteS z) z.cps.size (fun _ => True) (YPair (fun i => some (.int (i : Nat))) (fun i => z.cps[i]?.map fun c => .str ⟨#[c]⟩)) := by
  refine ⟨fun i _ hi q => hi, fun _ q => rfl, fun i H v H' _ q y => ?_⟩
  obtain ⟨T, c, h1, h2, h3, h4⟩ := y
  exact ⟨T, .int (i : Nat), .str ⟨#[c]⟩, h1, h2, h3, rfl, by show Option.map _ z.cps[i]? = _; rw [h4]; rfl⟩
end KX
namespace DX
open PySem PySem.Spec L2 KX
open PyProof.Rows hiding St
/-- the letters of a text -/
def chs (z : Str) : List PyData := z.cps.toList.map fun c => .str ⟨#[c]⟩
theorem chs_len (z : Str) : (chs z).length = z.cps.size := by simp [chs]
theorem chs_get (z : Str) (i : Nat) : (chs z)[i]? = z.cps[i]?.map fun c => .str ⟨#[c]⟩ := by simp [chs]
def withZ (o : Option PyData) (f : Str → Prop) (_ : Tag f := ()) : Prop := match o with
  | some (.str x) => f x
  | _ => False
@[simp ↓] theorem withZ_some (x : Str) (f : Str → Prop) : withZ (some (.str x)) f = f x := rfl
theorem withZ_ex (o : Option PyData) (f : Str → Prop) : withZ o f = ∃ x, o = some (.str x) ∧ f x := by
  apply propext
  constructor
  · intro h
    unfold withZ at h
    split at h
    · exact ⟨_, rfl, h⟩
    · exact h.elim
  · rintro ⟨x, rfl, h⟩; exact h
section
variable {X : Cx} {F : Fam} {pos p p2 pos2 apos cpos : Pos} {e a b tg : Expr} {wa wb : DE}
theorem Rdb.strT {C : Ct} {H U : Hp} {v : V} {z : Str} (h : Rdb C H U v (.str z)) : v = .str z := by
  rcases h with h | ⟨_, _, _, _, h, _⟩
  · cases h; rfl
  · cases h
def iS (wa : DE) (δ : DEnv) (Q : List PyData → DEnv → Prop) : Prop := wa δ fun r δ1 => withZ (rd δ1 r) fun z => Q (chs z) δ1
@[simp ↓] theorem iS_s (δ : DEnv) (Q : List PyData → DEnv → Prop) : iS wa δ Q = wa δ fun r δ1 => withZ (rd δ1 r) fun z => Q (chs z) δ1 := rfl
theorem di_s (h : PE X e (lE F X.K wa)) : PI X tg e (lI true F X.K (iS wa)) := PI.imp (pi_str h) fun σ H R ⟨C, δ, U, k, e1, e2, en, w, q⟩ => by
  refine ⟨C, δ, U, _, e1, e2, en, w, fun r δ' hk v H' U' s en' o => ?_⟩
  obtain ⟨U2, s2, en2, g⟩ := hold_of en' o
  rw [withZ_ex] at hk
  obtain ⟨z, hr, hk⟩ := hk
  obtain rfl := (rdb_of en2 g hr).strT
  refine ⟨z, rfl, q _ δ' hk _ H' U2 (s.trans s2) en2 fun C' hC => ?_⟩
  refine ⟨_, _, (by rw [chs_len]; exact walk_str), fun _ _ _ _ => trivial, fun i H U x H' wd s hi y => ?_⟩
  obtain ⟨rfl, c, hc, rfl⟩ := y
  exact ⟨U, _, Ext.refl wd, by rw [chs_get, hc]; rfl, .inl (.str _)⟩
def iES (wa : DE) (δ : DEnv) (Q : List PyData → DEnv → Prop) : Prop := wa δ fun r δ1 => withZ (rd δ1 r) fun z => Q (pairs 0 (chs z)) δ1
@[simp ↓] theorem iES_s (δ : DEnv) (Q : List PyData → DEnv → Prop) : iES wa δ Q = wa δ fun r δ1 => withZ (rd δ1 r) fun z => Q (pairs 0 (chs z)) δ1 := rfl
theorem di_es {tpos : Pos} {elts : List Expr} {kk : Nat} (hg : Gl X "enumerate") (hm : X.mg "enumerate" = none) (ha : PE X e (lE F X.K wa)) (hs : starEach [e] X.env = [(false, eval e X.env)] := by rfl) (hs0 : starEach [e] X.env = (false, eval e X.env) :: starEach [] X.env := by rfl) :
    PI X (.Tuple elts kk tpos) (.Call (.Name "enumerate" p) [e] [] pos) (lI false F X.K (iES wa)) := PI.imp (pi_enumS hg hm (pa_cons ha pa_nil hs0) hs) fun σ H R ⟨C, δ, U, k, e1, e2, en, w, q⟩ => by
  refine ⟨C, δ, U, _, e1, e2, en, w, fun r δ' hk v H' U' s en' o => ?_⟩
  obtain ⟨U2, s2, en2, g⟩ := hold_of en' o
  rw [withZ_ex] at hk
  obtain ⟨z, hr, hk⟩ := hk
  obtain rfl := (rdb_of en2 g hr).strT
  refine ⟨z, rfl, q _ δ' hk _ H' U2 (s.trans s2) en2 fun C' hC => ?_⟩
  refine walk_pair walk_enumS (by rw [pairs_len, chs_len]) (fun _ _ _ _ => trivial) fun i x y hi h1 h2 => ?_
  cases h1
  rw [Option.map_eq_some_iff] at h2
  obtain ⟨c, hc, rfl⟩ := h2
  exact ⟨.int (i : Int), .str ⟨#[c]⟩, by rw [pairs_get, chs_get, hc]; simp, .int _, .str _⟩
/-! a.join(b) -/
def strsOf : List PyData → Option (List Str)
  | [] => some []
  | .str i :: ds => (strsOf ds).map (i :: ·)
  | _ => none
@[simp] theorem strsOf_map : ∀ ns : List Str, strsOf (ns.map PyData.str) = some ns
  | [] => rfl
  | n :: ns => by simp [strsOf, strsOf_map ns]
theorem strsOf_eq : ∀ {ds : List PyData} {ns : List Str}, strsOf ds = some ns → ds = ns.map PyData.str
  | [], ns, h => by cases h; rfl
  | d :: ds, ns, h => by
    cases d with
    | str i =>
      simp only [strsOf, Option.map_eq_some_iff] at h
      obtain ⟨ms, hm, rfl⟩ := h
      rw [strsOf_eq hm]; rfl
    | _ => cases h
theorem DdAll.strs {K : PySem.W.Frag} {H : Hp} : ∀ {ns : List Str} {vs : List V}, DdAll K H vs (ns.map PyData.str) → vs = ns.map V.str
  | [], _, .nil => rfl
  | n :: ns, _, .cons h t => by cases h; rw [DdAll.strs t]; rfl
theorem ddAll_strs {K : PySem.W.Frag} {H : Hp} : ∀ ns : List Str, DdAll K H (ns.map V.str) (ns.map PyData.str)
  | [] => .nil
  | n :: ns => .cons (.str n) (ddAll_strs ns)
def xJoin (wa wb : DE) (δ : DEnv) (Q : Sl → DEnv → Prop) : Prop := wa δ fun r δ1 => withZ (rd δ1 r) fun z => wb δ1 fun r2 δ2 => withL (rd δ2 r2) fun ds => withD (strsOf ds) fun ys => (ys.map (·.length)).sum + ys.length * z.length ≤ 100000 ∧ Q (.pub (.str (Txt.join z ys))) δ2
@[simp ↓] theorem xJoin_s (δ : DEnv) (Q : Sl → DEnv → Prop) : xJoin wa wb δ Q = wa δ fun r δ1 => withZ (rd δ1 r) fun z => wb δ1 fun r2 δ2 => withL (rd δ2 r2) fun ds => withD (strsOf ds) fun ys => (ys.map (·.length)).sum + ys.length * z.length ≤ 100000 ∧ Q (.pub (.str (Txt.join z ys))) δ2 := rfl
theorem d_join (ha : PE X a (lE F X.K wa)) (hb : PE X b (lE F X.K wb)) (hs : starEach [b] X.env = [(false, eval b X.env)] := by rfl) (hbase : attributeBase a "join" X.env (eval a X.env) = eval a X.env := by rfl) (hl : (apos.endLine == pos.line) = true := by rfl) :
    PE X (.Call (.Attribute a "join" apos) [b] [] pos) (lE F X.K (xJoin wa wb)) := PE.imp (pe_join ha hb hs hbase hl) fun σ H Q ⟨C, δ, U, k, e1, e2, en, w, q⟩ => by
  refine ⟨C, δ, U, _, e1, e2, en, w, fun r δ1 w1 v1 H1 U1 s1 en1 o1 => ?_⟩
  obtain ⟨U1', s1', en1', g⟩ := hold_of en1 o1
  rw [withZ_ex] at w1
  obtain ⟨z, hr, w1⟩ := w1
  obtain rfl := (rdb_of en1' g hr).strT
  refine ⟨⟨z, rfl⟩, C, δ1, U1', _, e1, e2, en1', w1, fun r2 δ2 w2 v2 H2 U2 s2 en2 o2 => ?_⟩
  obtain ⟨U2', s2', en2', g2⟩ := hold_of en2 o2
  rw [withL_ex] at w2
  obtain ⟨ds, hd, w2⟩ := w2
  rw [withD_ex] at w2
  obtain ⟨ys, hy, hsz, w2⟩ := w2
  obtain rfl := strsOf_eq hy
  obtain ⟨al, vs, rfl, g3, g4⟩ := (rdb_of en2' g2 hd).list en2'.wd
  obtain rfl := DdAll.strs g4
  exact ⟨z, al, ys, rfl, rfl, .inl (SqL.of g3), by omega, q _ δ2 w2 _ H2 U2' (s1.trans (s1'.trans (s2.trans s2'))) en2' (show Dd _ _ _ _ from .str _)⟩
/-! a in b, of texts -/
def subIn (a b : Str) : Bool := !(Builtin.Str.occurrences b a 0 b.length 1).isEmpty
def oInZ (d e : PyData) (k : Sl → Prop) : Prop := match d, e with
  | .str a, .str b => k (.pub (.bool (subIn a b)))
  | _, _ => False
def oNotInZ (d e : PyData) (k : Sl → Prop) : Prop := match d, e with
  | .str a, .str b => k (.pub (.bool (!subIn a b)))
  | _, _ => False
@[simp ↓] theorem oInZ_s (a b : Str) (k : Sl → Prop) : oInZ (.str a) (.str b) k = k (.pub (.bool (subIn a b))) := rfl
@[simp ↓] theorem oNotInZ_s (a b : Str) (k : Sl → Prop) : oNotInZ (.str a) (.str b) k = k (.pub (.bool (!subIn a b))) := rfl
theorem s_inZ : OpS F X (compareOp .In) oInZ := ⟨_, op_in_str, fun C H U x y d e k Q e1 e2 w rx ry h q => by
  cases d with
  | str a =>
    cases e with
    | str b => exact ⟨a, b, rx.strT, ry.strT, fin_pub w (.bl _) h q⟩
    | _ => exact False.elim h
  | _ => exact False.elim h⟩
theorem s_notinZ : OpS F X (compareOp .NotIn) oNotInZ := ⟨_, op_notIn_str, fun C H U x y d e k Q e1 e2 w rx ry h q => by
  cases d with
  | str a =>
    cases e with
    | str b => exact ⟨a, b, rx.strT, ry.strT, fin_pub w (.bl _) h q⟩
    | _ => exact False.elim h
  | _ => exact False.elim h⟩
end
end DX

namespace DX
open PySem PySem.Spec L2 KX
open PyProof.Rows hiding St
section
variable {X : Cx} {F : Fam} {pos p p2 pos2 apos cpos : Pos} {e a b tg : Expr} {wa wb : DE}
/-! s * n -/
def repS (a : Str) (n : Nat) : Str := ⟨List.foldl (fun x1 x2 => x1 ++ x2) #[] (List.replicate n a.cps)⟩
theorem rep_go (x : Array Nat) : ∀ (n : Nat) (acc : Array Nat), (List.foldl (fun x1 x2 => x1 ++ x2) acc (List.replicate n x)).toList = acc.toList ++ (List.replicate n x.toList).flatten
  | 0, acc => by simp
  | n + 1, acc => by rw [List.replicate_succ, List.foldl_cons, rep_go x n]; simp [List.replicate_succ]
theorem repS_list (a : Str) (n : Nat) : (repS a n).cps.toList = (List.replicate n a.cps.toList).flatten := by
  unfold repS; rw [rep_go]; simp
theorem repS_len (a : Str) (n : Nat) : (repS a n).length = n * a.length := by
  show (repS a n).cps.size = n * a.cps.size
  rw [← Array.length_toList, repS_list]
  simp
theorem op_mulZ : OpR X (binaryOp .Mult) (fun x y H Q => ∃ (z : Str) (n : Int), x = .str z ∧ y = .int n ∧ 0 ≤ n ∧ n ≤ 1000 ∧ 1 ≤ z.length ∧ z.length ≤ 1000 ∧ Q (.str (repS z n.toNat)) H) := by
  intro pins s σ H x y v u Q I rx ry h
  obtain ⟨z, n, rfl, rfl, h0, h1, hz, hl, q⟩ := h
  obtain ⟨t, rfl⟩ := rx
  obtain ⟨k, rfl⟩ := ry
  have hb : z.length * n.toNat ≤ 1000 * 1000 := Nat.mul_le_mul hl (by omega)
  have hs : sizeLine = 16777216 := by decide
  refine P.mul_str (by simp; omega) (fun hn _ hgt => ?_) (fun _ _ => ?_) ?_
  · have h2 : (z.length : Int) * n ≤ 1000 * 1000 := by
      have := Int.mul_le_mul (show (z.length : Int) ≤ 1000 by omega) (show n ≤ 1000 by omega) h0 (by omega)
      omega
    have h3 : (2 : Int) ^ 63 - 1 = 9223372036854775807 := by decide
    rw [h3] at hgt
    have h4 : (1000 : Int) ≤ 9223372036854775807 / n := by
      rw [Int.le_ediv_iff_mul_le (by omega)]
      omega
    omega
  · unfold Builtin.Str.tooLong
    rw [decide_eq_false_iff_not, hs]
    omega
  · split
    · have : n = 0 := by omega
      subst this
      exact ⟨by decide, .str _, H, I.kept (t' := _) (fun b o e => e), ⟨_, rfl⟩, q⟩
    · split
      · rename_i h2 h3
        have h3 : n = 1 := by
          rw [Bool.or_eq_true] at h3
          rcases h3 with h3 | h3
          · simpa using h3
          · have : z.length = 0 := by simpa using h3
            omega
        subst h3
        have e : repS z (Int.toNat 1) = z := by
          show Str.mk (#[] ++ z.cps) = z
          simp
        rw [e] at q
        exact ⟨.str _, H, I, ⟨_, rfl⟩, q⟩
      · refine ⟨?_, .str _, H, I.kept (t' := _) (fun b o e => e), ⟨_, rfl⟩, q⟩
        show (repS z n.toNat).length ≤ sizeLine
        rw [repS_len, hs, Nat.mul_comm]
        omega
def oMulZ (d e : PyData) (k : Sl → Prop) : Prop := match d, e with
  | .str a, .int n => 0 ≤ n ∧ n ≤ 1000 ∧ 1 ≤ a.length ∧ a.length ≤ 1000 ∧ k (.pub (.str (repS a n.toNat)))
  | _, _ => False
@[simp ↓] theorem oMulZ_s (a : Str) (n : Int) (k : Sl → Prop) : oMulZ (.str a) (.int n) k = (0 ≤ n ∧ n ≤ 1000 ∧ 1 ≤ a.length ∧ a.length ≤ 1000 ∧ k (.pub (.str (repS a n.toNat)))) := rfl
theorem s_mulZ : OpS F X (binaryOp .Mult) oMulZ := ⟨_, op_mulZ, fun C H U x y d e k Q e1 e2 w rx ry h q => by
  cases d with
  | str a =>
    cases e with
    | int n => exact ⟨a, n, rx.strT, ry.int, h.1, h.2.1, h.2.2.1, h.2.2.2.1, fin_pub w (.str _) h.2.2.2.2 q⟩
    | _ => exact False.elim h
  | _ => exact False.elim h⟩
/-! list(s) -/
theorem vals_str : ∀ (cs : List Nat) (us : List Value), us.length = cs.length → (∀ (j : Nat) v, us[j]? = some v → ∃ c u, cs[j]? = some c ∧ v = Value.str ⟨#[c]⟩ u) → Vals (cs.map fun c => V.str ⟨#[c]⟩) us
  | [], [], _, _ => .nil
  | [], _ :: _, h, _ => by simp at h
  | _ :: _, [], h, _ => by simp at h
  | c :: cs, v :: us, h, q => by
    obtain ⟨c', u, h1, rfl⟩ := q 0 v rfl
    simp at h1
    subst h1
    exact .cons ⟨u, rfl⟩ (vals_str cs us (by simpa using h) fun j v hv => q (j + 1) v hv)
theorem cr_listZ (hc : X.calm = true) : CallR X (.type "list") (fun vs H Q => ∃ z : Str, vs = [.str z] ∧ z.length ≤ 10000 ∧ ∀ p, H p = none → Q (.ref p) (upd H p (.lst (z.cps.toList.map fun c => .str ⟨#[c]⟩)))) := by
  intro pins s σ H vs us Q I r h
  obtain ⟨z, rfl, hl, q⟩ := h
  cases r with | cons r1 r => ?_
  cases r
  obtain ⟨t, rfl⟩ := r1
  have hs : sizeLine = 16777216 := by decide
  have hz : z.cps.size ≤ 10000 := hl
  refine call_list_str (I.ok.hd hc) z t (fun h' tk acc c hk ha hi => ?_) (by omega)
  refine ⟨.ref _, _, I.laid (t' := tk) hk (Nat.le_refl _) ?_, rfl, q _ (I.hok.fresh (Nat.le_refl _))⟩
  obtain ⟨i1, i2⟩ := hi
  show ObjOk X.prog X.w _ h' _ (.lst (z.cps.toList.map fun c => .str ⟨#[c]⟩))
  refine ⟨by simp; omega, acc.toList, c, ?_, ?_⟩
  · refine vals_str z.cps.toList acc.toList (by simp [i1]) fun j v hv => ?_
    obtain ⟨c, u, h1, h2⟩ := i2 j v (by simpa using hv)
    exact ⟨c, u, by simpa using h1, h2⟩
  · simpa using ha
def fListZ (d : PyData) (k : Sl → Prop) : Prop := match d with
  | .str z => z.length ≤ 10000 ∧ k (.own (chs z))
  | _ => False
@[simp ↓] theorem fListZ_s (z : Str) (k : Sl → Prop) : fListZ (.str z) k = (z.length ≤ 10000 ∧ k (.own (chs z))) := rfl
theorem dd_chs {K : PySem.W.Frag} {H : Hp} (l : List Nat) : DdAll K H (l.map fun c => V.str ⟨#[c]⟩) (l.map fun c => PyData.str ⟨#[c]⟩) := by
  induction l with
  | nil => exact .nil
  | cons c l ih => exact .cons (.str _) ih
theorem s_listZ (hc : X.calm = true) : CallS F X (.type "list") fListZ := ⟨_, cr_listZ hc, fun C H U x d k Q e1 e2 w rx h q => by
  cases d with
  | str z => exact ⟨z, by rw [rx.strT], h.1, fun l hl => fin_own w hl (dd_chs _) h.2 q⟩
  | _ => exact False.elim h⟩
/-! s[i:j] -/
def xSlZ (w : DE) (wl wh : DO) (δ : DEnv) (Q : Sl → DEnv → Prop) : Prop := w δ fun r δ1 => wl δ1 fun lo δ2 => wh δ2 fun hi δ3 => withZ (rd δ3 r) fun z => z.length ≤ 10000 ∧ Q (.pub (.str (cutS z lo hi))) δ3
@[simp ↓] theorem xSlZ_s (w : DE) (wl wh : DO) (δ : DEnv) (Q : Sl → DEnv → Prop) : xSlZ w wl wh δ Q = w δ fun r δ1 => wl δ1 fun lo δ2 => wh δ2 fun hi δ3 => withZ (rd δ3 r) fun z => z.length ≤ 10000 ∧ Q (.pub (.str (cutS z lo hi))) δ3 := rfl
theorem d_slZ {e : Expr} {lo hi : Option Expr} {wl wh : DO} {p2 : Pos} (he : PE X e (lE F X.K wa)) (hl : PO X lo (lO F X.K wl)) (hu : PO X hi (lO F X.K wh)) : PE X (.Subscript e (.Slice lo hi none p2) pos) (lE F X.K (xSlZ wa wl wh)) := PE.imp (pe_slice sl_str he hl hu) fun σ H Q ⟨C, δ, U, k, e1, e2, en, w, q⟩ => by
  refine ⟨C, δ, U, _, e1, e2, en, w, fun r δ' hk v H' U0 s0 en0 o => ?_⟩
  obtain ⟨U', s1, en', ho⟩ := hold_of en0 o
  refine ⟨C, δ', U', _, e1, e2, en', hk, fun l δ2 hk2 H2 U2 s2 en2 => ?_⟩
  refine ⟨C, δ2, U2, _, e1, e2, en2, hk2, fun u δ3 hk3 H3 U3 s3 en3 => ?_⟩
  rw [withZ_ex] at hk3
  obtain ⟨z, hx, hz, hs⟩ := hk3
  obtain rfl := (rdb_of en3 (ho.mono (s2.trans s3)) hx).strT
  have hsz : sizeLine = 16777216 := by decide
  exact ⟨z, rfl, by omega, q _ δ3 hs _ H3 U3 (s0.trans (s1.trans (s2.trans s3))) en3 (show Dd _ _ _ _ from .str _)⟩
/-! s.count(t) -/
def xCnt (wa wb : DE) (δ : DEnv) (Q : Sl → DEnv → Prop) : Prop := wa δ fun r δ1 => withZ (rd δ1 r) fun z => wb δ1 fun r2 δ2 => withZ (rd δ2 r2) fun y => Q (.pub (.int (Txt.count z y))) δ2
@[simp ↓] theorem xCnt_s (δ : DEnv) (Q : Sl → DEnv → Prop) : xCnt wa wb δ Q = wa δ fun r δ1 => withZ (rd δ1 r) fun z => wb δ1 fun r2 δ2 => withZ (rd δ2 r2) fun y => Q (.pub (.int (Txt.count z y))) δ2 := rfl
theorem d_cnt (ha : PE X a (lE F X.K wa)) (hb : PE X b (lE F X.K wb)) (hs : starEach [b] X.env = [(false, eval b X.env)] := by rfl) (hbase : attributeBase a "count" X.env (eval a X.env) = eval a X.env := by rfl) (hl : (apos.endLine == pos.line) = true := by rfl) :
    PE X (.Call (.Attribute a "count" apos) [b] [] pos) (lE F X.K (xCnt wa wb)) := PE.imp (pe_m1 PySem.F.slot_str_count PySem.F.type_str_count mt_count ha hb hs hbase hl) fun σ H Q ⟨C, δ, U, k, e1, e2, en, w, q⟩ => by
  refine ⟨C, δ, U, _, e1, e2, en, w, fun r δ1 w1 v1 H1 U1 s1 en1 o1 => ?_⟩
  obtain ⟨U1', s1', en1', g⟩ := hold_of en1 o1
  rw [withZ_ex] at w1
  obtain ⟨z, hr, w1⟩ := w1
  obtain rfl := (rdb_of en1' g hr).strT
  refine ⟨⟨z, rfl⟩, C, δ1, U1', _, e1, e2, en1', w1, fun r2 δ2 w2 v2 H2 U2 s2 en2 o2 => ?_⟩
  obtain ⟨U2', s2', en2', g2⟩ := hold_of en2 o2
  rw [withZ_ex] at w2
  obtain ⟨y, hy, w2⟩ := w2
  obtain rfl := (rdb_of en2' g2 hy).strT
  exact ⟨z, y, rfl, rfl, q _ δ2 w2 _ H2 U2' (s1.trans (s1'.trans (s2.trans s2'))) en2' (show Dd _ _ _ _ from .int _)⟩
end
end DX

namespace DX
open PySem PySem.Spec L2 KX
open PyProof.Rows hiding St
/-! reversed(range(n)) -/
section
variable {X : Cx} {F : Fam} {e tg : Expr} {wa wb : DE} {pos : Pos}
def iRR1 (wa : DE) (δ : DEnv) (Q : List PyData → DEnv → Prop) : Prop := wa δ fun r δ1 => withI (rd δ1 r) fun j => 0 ≤ j ∧ j < 1000000 ∧ Q (rngC (j - 1) (-1) j.toNat) δ1
@[simp ↓] theorem iRR1_s (δ : DEnv) (Q : List PyData → DEnv → Prop) : iRR1 wa δ Q = wa δ fun r δ1 => withI (rd δ1 r) fun j => 0 ≤ j ∧ j < 1000000 ∧ Q (rngC (j - 1) (-1) j.toNat) δ1 := rfl
theorem di_rr1 {p p2 pos2 : Pos} (hg : Gl X "reversed") (hm : X.mg "reversed" = none) (hg2 : Gl X "range") (hm2 : X.mg "range" = none) (ha : PE X e (lE F X.K wa))
    (na : starEach [e] X.env = (false, eval e X.env) :: starEach [] X.env := by rfl)
    (hs : starEach [.Call (.Name "range" p2) [e] [] pos2] X.env = (false, eval (.Call (.Name "range" p2) [e] [] pos2) X.env) :: starEach [] X.env := by rfl) :
    PI X tg (.Call (.Name "reversed" p) [.Call (.Name "range" p2) [e] [] pos2] [] pos) (lI true F X.K (iRR1 wa)) := PI.imp (pi_revR hg hm (prg_1 hg2 hm2 ha na) hs) fun σ H R ⟨C, δ, U, k, e1, e2, en, w, q⟩ => by
  refine ⟨C, δ, U, _, e1, e2, en, w, fun r δ' hk v H' U0 s0 en0 ho => ?_⟩
  rw [withI_ex] at hk
  obtain ⟨j, hr, h0, h1, hk⟩ := hk
  obtain ⟨U', s1, en', ho⟩ := hold_of en0 ho
  obtain rfl := int_of en' ho hr
  refine ⟨j, rfl, by omega, by omega, by omega, by omega, ?_⟩
  have e : (0 : Int) + (((j - 0).toNat : Nat) : Int) - 1 = j - 1 := by omega
  rw [e, Int.sub_zero]
  exact q _ δ' hk _ H' U' (s0.trans s1) en' fun C' _ => walk_rngC
/-! zip of a list and a tuple -/
def ItzM (K : PySem.W.Frag) (a b : Addr) : It :=
  ⟨fun i H => ∃ (xs ys : List V) (x y : V), SqL K H a xs ∧ SqT K H b ys ∧ xs[i]? = some x ∧ ys[i]? = some y,
    fun i H v H' => ∃ T x y, v = .ref T ∧ H T = none ∧ H' = upd H T (.tup [x, y]) ∧ (∀ xs, SqL K H a xs → xs[i]? = some x) ∧ ∀ ys, SqT K H b ys → ys[i]? = some y,
    fun i H => ∃ xs ys : List V, SqL K H a xs ∧ SqT K H b ys ∧ i ≤ xs.length ∧ i ≤ ys.length ∧ (i = xs.length ∨ i = ys.length)⟩
theorem sep_of {a b z TI TO i1 i2 : Addr} (D : ZipApart z TI TO i1 i2 a b) : ZipSep2 z TI TO i1 i2 [i1, a] [i2, b] :=
  ⟨D.TIz, D.TOz, D.TITO, D.TIi1, by simp, by simp [D.i1z.symm, D.l1z.symm], by simp [D.TOi1, D.l1TO.symm], D.TIi2, by simp, by simp [D.i2z.symm, D.l2z.symm], by simp [D.TOi2, D.l2TO.symm], by simp [D.i12, D.l2i1.symm], by simp [D.i12.symm, D.l1i2.symm]⟩
theorem turn_zipM {P : Program} {w : World} {K : PySem.W.Frag} {elts : List Expr} {kk : Nat} {tpos : Pos} {a b z TI TO i1 i2 : Addr} (D : ZipApart z TI TO i1 i2 a b) :
    Turn P w K (.Tuple elts kk tpos) (ItzM K a b) [z, TI, TO, i1, i2] z (fun i h => IsZip h z TI TO .none ∧ IsTupOf2 h TI (.ref i1) (.ref i2) ∧ (∃ x y, IsTupOf2 h TO x y) ∧ h.IsListIter i1 a i ∧ h.IsTupleIter i2 b i) where
  mem := by simp
  obj := fun i h st c hc => by
    obtain ⟨hz, hTI, ⟨x, y, hTO⟩, ⟨o1, e1, _, d1⟩, ⟨o2, e2, _, d2⟩⟩ := st
    have e' : c = z ∨ c = TI ∨ c = TO ∨ c = i1 ∨ c = i2 := by simpa using hc
    rcases e' with q | q | q | q | q
    · rw [q]; exact ⟨_, hz, fun v q => nomatch q⟩
    · rw [q]; exact ⟨_, hTI, fun v q => nomatch q⟩
    · rw [q]; exact ⟨_, hTO, fun v q => nomatch q⟩
    · rw [q]; exact ⟨o1, e1, fun v q => by rw [d1] at q; cases q⟩
    · rw [q]; exact ⟨o2, e2, fun v q => by rw [d2] at q; cases q⟩
  keep := fun i h h' st k => by
    obtain ⟨hz, hTI, ⟨x, y, hTO⟩, h1, h2⟩ := st
    exact ⟨k z (by simp) _ hz, k TI (by simp) _ hTI, ⟨x, y, k TO (by simp) _ hTO⟩, h1.at fun o q => k i1 (by simp) o q, h2.at fun o q => k i2 (by simp) o q⟩
  item := by
    intro X hP hw hK hc i pins s σ H E I hf st hg
    subst hP hw hK
    obtain ⟨hz, hTI, ⟨x0, y0, hTO⟩, h1, h2⟩ := st
    obtain ⟨xs, ys, x, y, hqx, hqy, hx, hy⟩ := hg
    obtain ⟨its, rv, p, _⟩ := I.list hqx
    obtain ⟨its2, rv2, p2, _⟩ := I.tuple hqy
    obtain ⟨u, hu, ru⟩ := rv.get hx
    obtain ⟨u2, hu2, ru2⟩ := rv2.get hy
    have hzl : z < s.heap.objs.size := Heap.lt_size hz
    have hh : X.A.in1.handled = none := I.ok.hd hc
    have l1 : i < its.toArray.size := by
      rcases Nat.lt_or_ge i its.length with q | q
      · simpa using q
      · rw [List.getElem?_eq_none q] at hu; cases hu
    have l2 : i < its2.toArray.size := by
      rcases Nat.lt_or_ge i its2.length with q | q
      · simpa using q
      · rw [List.getElem?_eq_none q] at hu2; cases hu2
    refine wpAny_pyNext_zipD2_item (sep_of D) (Draws.list hh i1 a D.l1i1 its.toArray) (Draws.tuple hh i2 b D.l2i2 its2.toArray) hz hTI hTO ⟨h1, p.isList⟩ ⟨h2, p2⟩ l1 l2 fun x1 x2 h' tk q1 q2 z' TO' h1' h2' hT hsz hk => ?_
    have ex1 : x1 = u := by
      have q1 : its.toArray[i]? = some x1 := q1
      rw [List.getElem?_toArray] at q1
      exact Option.some.inj (q1.symm.trans hu)
    have ex2 : x2 = u2 := by
      have q2 : its2.toArray[i]? = some x2 := q2
      rw [List.getElem?_toArray] at q2
      exact Option.some.inj (q2.symm.trans hu2)
    subst ex1 ex2
    refine ⟨_, rfl, wpAny_letOwnedTupleGo_zip (s := { s with heap := h', toks := tk }) z' fun h'' z'' sb => ?_⟩
    have hT2 : h''.get? s.heap.objs.size = some { cls := .type "tuple", data := .seq #[x1, x2] } := (sb.2 _ (Nat.ne_of_gt hzl)).trans hT
    have new : ObjOk X.prog X.w (upd H s.heap.objs.size (.tup [x, y])) h'' s.heap.objs.size (.tup [x, y]) :=
      ⟨by show 2 ≤ sizeLine; decide, [x1, x2], .cons ru (.cons ru2 .nil), ⟨_, hT2, rfl, _, rfl⟩⟩
    have I1 : Inv X pins σ (upd H s.heap.objs.size (.tup [x, y])) { s with heap := h'', toks := tk } :=
      I.turnedNew (t' := tk) (ch := [z, TI, TO, i1, i2]) (fun c o hb q => (sb.2 c (fun q' => hb (by simp [q']))).trans (hk c o (fun q' => hb (by simp [q'])) (fun q' => hb (by simp [q'])) (fun q' => hb (by simp [q'])) (fun q' => hb (by simp [q'])) q)) hf (Nat.le_refl _) new
    refine ⟨.ref s.heap.objs.size, _, I1, rfl, ⟨_, x, y, rfl, I.hok.fresh (Nat.le_refl _), rfl, fun l hl => by rw [I.list_inj hl hqx]; exact hx, fun l hl => by rw [I.tuple_inj hl hqy]; exact hy⟩, ⟨z'', ?_, ⟨x1, x2, ?_⟩, ?_, ?_⟩, fun c hcm => ?_⟩
    · exact (sb.2 _ D.TIz).trans (hk _ _ D.TIz D.TITO D.TIi1 D.TIi2 hTI)
    · exact (sb.2 _ D.TOz).trans TO'
    · exact h1'.1.at fun o q => (sb.2 _ D.i1z).trans q
    · exact h2'.1.at fun o q => (sb.2 _ D.i2z).trans q
    · have hlt : c < s.heap.objs.size := by
        have e' : c = z ∨ c = TI ∨ c = TO ∨ c = i1 ∨ c = i2 := by simpa using hcm
        rcases e' with q | q | q | q | q
        · rw [q]; exact hzl
        · rw [q]; exact Heap.lt_size hTI
        · rw [q]; exact Heap.lt_size hTO
        · rw [q]; obtain ⟨_, e1, _⟩ := h1; exact Heap.lt_size e1
        · rw [q]; obtain ⟨_, e2, _⟩ := h2; exact Heap.lt_size e2
      rw [upd_ne (Nat.ne_of_lt hlt)]
      exact (hf c hcm).1
  done := by
    intro X hP hw hK hc i pins s σ H E I hf st hg
    subst hP hw hK
    obtain ⟨hz, hTI, ⟨x0, y0, hTO⟩, h1, h2⟩ := st
    obtain ⟨xs, ys, hqx, hqy, hl1, hl2, hend⟩ := hg
    obtain ⟨its, rv, p, _⟩ := I.list hqx
    obtain ⟨its2, rv2, p2, _⟩ := I.tuple hqy
    have l1 := rv.length
    have l2 := rv2.length
    have hh : X.A.in1.handled = none := I.ok.hd hc
    refine wpAny_pyNext_zipD2_end (sep_of D) (Draws.list hh i1 a D.l1i1 its.toArray) (Draws.tuple hh i2 b D.l2i2 its2.toArray) hz hTI hTO ⟨h1, p.isList⟩ ⟨h2, p2⟩ (by simp; omega) (by simp; omega) (by simp; omega) fun h' tk hk => ⟨rfl, I.turnedL (t' := tk) (ch := [z, TI, TO, i1, i2]) (fun c o hb q =>
      hk c o (fun q' => hb (by simp [q'])) (fun q' => hb (by simp [q'])) (fun q' => hb (by simp [q'])) (fun q' => hb (by simp [q'])) q) hf⟩
  self := fun A i s Q E st h => wpAny_pyIter_zip st.1 h
def iZipM (K : PySem.W.Frag) (ta : TA) : TI := fun σ H R => ta σ H fun vs H1 => ∃ a b xs ys, vs = [.ref a, .ref b] ∧ SqL K H1 a xs ∧ SqT K H1 b ys ∧ R (ItzM K a b) H1
theorem pi_zipM {e2 : Expr} {ta : TA} {p tpos : Pos} {elts : List Expr} {kk : Nat} (hg : Gl X "zip") (hm : X.mg "zip" = none) (ha : PA X [e, e2] ta)
    (hs : starEach [e, e2] X.env = (false, eval e X.env) :: starEach [e2] X.env := by rfl) (hpl : (backTo pos (starEach [e2] X.env)).any (·.1) = false := by rfl) :
    PI X (.Tuple elts kk tpos) (.Call (.Name "zip" p) [e, e2] [] pos) (iZipM X.K ta) := by
  refine ⟨fun pins s σ H R I h => ?_⟩
  refine Call_ (ld_blt I hg hm PyProof.Rows.boot_zip (PyProof.Rows.callWith_type1 (thn (ha.run pos pins s σ H _ I h) fun us s1 ⟨vs, H1, I1, r1, q1⟩ => ?_) hs hpl))
  obtain ⟨a, b, xs, ys, ex, hqx, hqy, q⟩ := q1
  subst ex
  cases r1 with
  | cons r rr =>
    cases rr with
    | cons r' rr =>
      cases rr
      cases r
      cases r'
      have fresh5 : ∀ c, c ∈ [s1.heap.objs.size + 4, s1.heap.objs.size + 2, s1.heap.objs.size + 3, s1.heap.objs.size, s1.heap.objs.size + 1] → FpOk X pins H1 c := fun c hcm => by
        have e' : c = s1.heap.objs.size + 4 ∨ c = s1.heap.objs.size + 2 ∨ c = s1.heap.objs.size + 3 ∨ c = s1.heap.objs.size ∨ c = s1.heap.objs.size + 1 := by simpa using hcm
        have hle : s1.heap.objs.size ≤ c := by
          rcases e' with z | z | z | z | z
          · rw [z]; exact Nat.le_add_right _ _
          · rw [z]; exact Nat.le_add_right _ _
          · rw [z]; exact Nat.le_add_right _ _
          · rw [z]; exact Nat.le_refl _
          · rw [z]; exact Nat.le_add_right _ _
        exact I1.fpOk hle (I1.hok.fresh hle)
      obtain ⟨its, rv, p1, _⟩ := I1.list hqx
      obtain ⟨its2, rv2, p2, _⟩ := I1.tuple hqy
      obtain ⟨o2, ho2, _⟩ := id p2
      refine zip_begins2 (begins_list a its.toArray) (begins_tuple b its2.toArray) p1.isList p2 fun h' hz hTI hTO h1 h2 hsz hk => wpAny_pyIter_zip hz ?_
      have I2 : Inv X pins σ H1 { s1 with heap := h' } := I1.kept (t' := s1.toks) hk
      exact ⟨s1.heap.objs.size + 4, [s1.heap.objs.size + 4, s1.heap.objs.size + 2, s1.heap.objs.size + 3, s1.heap.objs.size, s1.heap.objs.size + 1], _, _, H1, rfl, I2, turn_zipM (PySem.W.ktu_apart s1.heap.objs.size a b p1.lt (Heap.lt_size ho2)), ⟨hz, hTI, ⟨_, _, hTO⟩, ⟨_, h1, rfl, rfl⟩, ⟨_, h2, rfl, rfl⟩⟩, fresh5, q⟩
theorem walk_zipM {K : PySem.W.Frag} {a b : Addr} {xs ys : List V} {n : Nat} (hn : n = min xs.length ys.length) : Walk (ItzM K a b) n (fun H => SqL K H a xs ∧ SqT K H b ys) (YPair (fun i => xs[i]?) (fun i => ys[i]?)) := by
  subst hn
  refine ⟨fun i _ hi q => ?_, fun _ q => ⟨xs, ys, q.1, q.2, by omega, by omega, by omega⟩, fun i H v H' _ q y => ?_⟩
  · have h1 : i < xs.length := by omega
    have h2 : i < ys.length := by omega
    exact ⟨xs, ys, xs[i], ys[i], q.1, q.2, by simp [h1], by simp [h2]⟩
  · obtain ⟨T, x, z, h1, h2, h3, h4, h5⟩ := y
    exact ⟨T, x, z, h1, h2, h3, h4 xs q.1, h5 ys q.2⟩
def iZM (wa wb : DE) (δ : DEnv) (Q : List PyData → DEnv → Prop) : Prop := xP wa δ fun r δ1 => xP wb δ1 fun s δ2 => ∃ ds es, r = .pub (.list ds) ∧ s = .pub (.tuple es) ∧ Q (zipD ds es) δ2
def mixS (f : List PyData → List PyData → Prop) (r s : Sl) (_ : Tag f := ()) : Prop := match r, s with
  | .pub (.list ds), .pub (.tuple es) => f ds es
  | _, _ => False
@[simp ↓] theorem mixS_s (f : List PyData → List PyData → Prop) (ds es : List PyData) : mixS f (.pub (.list ds)) (.pub (.tuple es)) = f ds es := rfl
theorem mixS_ex (f : List PyData → List PyData → Prop) (r s : Sl) : mixS f r s = ∃ ds es, r = .pub (.list ds) ∧ s = .pub (.tuple es) ∧ f ds es := by
  apply propext
  constructor
  · intro h
    unfold mixS at h
    split at h
    · exact ⟨_, _, rfl, rfl, h⟩
    · exact h.elim
  · rintro ⟨ds, es, rfl, rfl, h⟩; exact h
@[simp ↓] theorem iZM_s (δ : DEnv) (Q : List PyData → DEnv → Prop) : iZM wa wb δ Q = wa δ fun r δ1 => pubK (fun r δ1 => wb δ1 fun s δ2 => pubK (fun s δ2 => mixS (fun ds es => Q (zipD ds es) δ2) r s) s δ2) r δ1 := by
  unfold iZM; rw [xP_s]
  congr
  funext r δ1
  congr
  funext r δ1
  rw [xP_s]
  congr
  funext s δ2
  congr
  funext s δ2
  rw [mixS_ex]
theorem di_zipM {e2 : Expr} {p tpos : Pos} {elts : List Expr} {kk : Nat} (hg : Gl X "zip") (hm : X.mg "zip" = none) (ha : PE X e (lE F X.K wa)) (hb : PE X e2 (lE F X.K wb))
    (hs : starEach [e, e2] X.env = (false, eval e X.env) :: starEach [e2] X.env := by rfl) (hs2 : starEach [e2] X.env = (false, eval e2 X.env) :: starEach [] X.env := by rfl) (hpl : (backTo pos (starEach [e2] X.env)).any (·.1) = false := by rfl) :
    PI X (.Tuple elts kk tpos) (.Call (.Name "zip" p) [e, e2] [] pos) (lI false F X.K (iZM wa wb)) := PI.imp (pi_zipM hg hm (da_cons (d_p ha) (da_cons (d_p hb) da_nil hs2) hs) hs hpl) fun σ H R ⟨C, δ, U, k, e1, e2, en, w, q⟩ => by
  refine ⟨C, δ, U, fun rs δ1 => ∃ r s, rs = [r, s] ∧ ∃ ds es, r = .pub (.list ds) ∧ s = .pub (.tuple es) ∧ k (zipD ds es) δ1, e1, e2, en, ?_, fun rs δ1 hk vs H' U' s en' ho => ?_⟩
  · show xP wa δ _
    refine cast (congrArg (xP wa δ) ?_) w
    funext r δ1
    show xP wb δ1 _ = xP wb δ1 _
    congr
    funext s δ2
    apply propext
    constructor
    · intro h; exact ⟨r, s, rfl, h⟩
    · rintro ⟨r', s', e, h⟩; cases e; exact h
  · obtain ⟨r, s', rfl, ds, es, rfl, rfl, hk⟩ := hk
    cases ho with
    | cons o1 _ o3 =>
      cases o3 with
      | cons o2 _ o4 =>
        cases o4
        cases o1 with
        | lst hl hall =>
          cases o2 with
          | tup hl2 hall2 =>
            refine ⟨_, _, _, _, rfl, SqL.of (en'.wd.sub _ _ hl), (hl2.same en'.wd.sub).sq, q _ δ1 hk _ H' U' s en' fun C' hC => ?_⟩
            refine walk_pair (walk_zipM rfl) (by unfold zipD; rw [List.length_zipWith, hall.len, hall2.len]) (fun H U s1 s2 => ⟨SqL.of (s2 _ _ (s1 _ _ hl)), (hl2.same (s1.trans s2)).sq (K := X.K)⟩) fun i x y hi h1 h2 => ?_
            obtain ⟨d, h3, h4⟩ := hall.getV h1
            obtain ⟨e', h5, h6⟩ := hall2.getV h2
            refine ⟨d, e', ?_, by rw [hC, ← e1]; exact h4, by rw [hC, ← e1]; exact h6⟩
            unfold zipD
            rw [List.getElem?_zipWith, h3, h5]
end
end DX

namespace DX
open PySem PySem.Spec L2 KX
open PyProof.Rows hiding St
/-! x[i] += v, x a list of one's own, ints -/
section
variable {X : Cx} {F : Fam} {e ix : Expr} {wa wb : DE} {pos : Pos} {i : Nat} {x : Str}
def rGetN (K : PySem.W.Frag) : V → V → Hp → VK → Prop := fun o y H Q => ∃ p xs j v, o = .ref p ∧ y = .int (j : Nat) ∧ SqL K H p xs ∧ xs.length ≤ 10000 ∧ xs[j]? = some v ∧ Q v H
theorem pget_list : PGet X (rGetN X.K) := by
  intro pins s σ H o y ov iv Q I ro ri h
  obtain ⟨p, xs, j, v, rfl, rfl, hq, hl, he, q⟩ := h
  cases ro
  obtain ⟨t, rfl⟩ := ri
  obtain ⟨its, r, pl, hz⟩ := I.list hq
  obtain ⟨u, hu, ru⟩ := r.get he
  have hlen := r.length
  have hj : j < xs.length := by
    rcases Nat.lt_or_ge j xs.length with z | z
    · exact z
    · rw [List.getElem?_eq_none z] at he; cases he
  exact wpAny_getItem_list pl.isList (by omega) (by simp; omega) (by rw [Int.toNat_natCast]; simpa using hu) ⟨v, H, I, ru, q⟩
def sAugS (i : Nat) (wi wv : DE) (D : DEnds) (δ : DEnv) : Prop := (∃ es, δ[i]? = some (.own es)) ∧ wi δ fun s δ1 => ∃ (j : Nat) (ds : List PyData) (a : Int), rd δ1 s = some (.int j) ∧ δ1[i]? = some (.own ds) ∧ ds.length ≤ 10000 ∧ ds[j]? = some (.int a) ∧ wv δ1 fun r δ2 => ∃ (b : Int) (es : List PyData), rd δ2 r = some (.int b) ∧ δ2[i]? = some (.own es) ∧ j < es.length ∧ D.nx (δ2.set i (.own (es.set j (.int (a + b)))))
theorem ds_augS {px tpos : Pos} (hi : PE X ix (lE F X.K wa)) (he : PE X e (lE F X.K wb)) (hN : X.N[i]? = some x := by rfl) (hv : Vis X.env.scope x := by first | exact Or.inl rfl | exact Or.inr (Or.inl rfl) | exact Or.inr (Or.inr rfl))
    (hd : (x == ("__debug__" : Str)) = false := by decide) (hcd : (x == ("__classdict__" : Str)) = false := by decide)
    (ha : ∀ ov iv new, augStore ix ov iv new = (do holding [new, ov, iv] (setItem ov iv new); release [new, ov, iv] []; pure .next) := by intros; rfl) :
    PS X (.AugAssign (.Subscript (.Name x px) ix tpos) .Add e pos) (lS F X.K (sAugS i wa wb)) := PS.imp (ps_augS (pe_var hN hv hd hcd) hi pget_list he ip_add set_list ha) fun D σ H ⟨C, δ, U, DD, e1, e2, en, w, ok⟩ => by
  obtain ⟨⟨es, hes⟩, w⟩ := w
  obtain ⟨a, vs, h1, h2, h3⟩ := en.own hes
  refine ⟨_, h1, C, δ, U, _, e1, e2, en, w, fun s δ1 hk u H1 U1 s1 en1 o1 => ?_⟩
  obtain ⟨U2, s2, en2, ho2⟩ := hold_of en1 o1
  obtain ⟨j, ds, n, hj, hi1, hl, hn, hk⟩ := hk
  obtain rfl := int_of en2 ho2 hj
  obtain ⟨a', us, g1, g2, g3⟩ := en2.own hi1
  rw [h1] at g1
  cases g1
  obtain ⟨v, g4, g5⟩ := g3.get hn
  cases g5
  refine ⟨a, us, j, _, rfl, rfl, SqL.of g2, by rw [g3.len]; exact hl, g4, C, δ1, U2, _, e1, e2, en2, hk, fun r δ2 hk2 y H3 U3 s3 en3 o3 => ?_⟩
  obtain ⟨U4, s4, en4, ho4⟩ := hold_of en3 o3
  obtain ⟨b, fs, hb, hi2, hjl, hk2⟩ := hk2
  obtain rfl := int_of en4 ho4 hb
  obtain ⟨a'', ts, f1, f2, f3⟩ := en4.own hi2
  rw [h1] at f1
  cases f1
  refine ⟨n, b, rfl, rfl, a, ts, (j : Int), j, rfl, rfl, f2, by rw [f3.len]; unfold ixN; rw [if_pos (by omega), if_pos (by omega)]; simp, ?_⟩
  exact ok.nx _ hk2 _ _ U4 (en4.putOwn hi2 h1 (DdAll.set (.int _) j f3))
end
end DX

namespace DX
open PySem PySem.Spec L2 KX
open PyProof.Rows hiding St
/-! xs.count(s), xs a list of texts of one's own; s < t -/
section
variable {X : Cx} {F : Fam} {e : Expr} {wa wb : DE} {i : Nat} {x : Str} {p apos cpos pos : Pos}
def eqz (k : Str) (v : Value) : Bool := match v with
  | .str n _ => n == k
  | _ => false
theorem eqz_count {k : Str} : ∀ {us : List Value} {ns : List Str}, Vals (ns.map V.str) us → us.countP (eqz k) = ns.count k
  | _, [], h => by cases h; rfl
  | _, n :: ns, h => by
    cases h with
    | cons r t =>
      obtain ⟨tk, rfl⟩ := r
      have ih := eqz_count (k := k) t
      rw [List.countP_cons, List.count_cons, ih] <;> rfl
theorem eqz_at {k : Str} {t : Tok} (A : Around) (s : Shared) : ∀ {us : List Value} {ns : List Str}, Vals (ns.map V.str) us → ∀ y ∈ us, SeqAt.EqAt A s y (.str k t) (eqz k y)
  | _, [], h => by cases h; intro y hy; cases hy
  | _, n :: ns, h => by
    cases h with
    | cons r tl =>
      obtain ⟨tk, rfl⟩ := r
      intro y hy
      rcases List.mem_cons.mp hy with e | e
      · rw [e]
        show SeqAt.EqAt A s (.str n tk) (.str k t) (n == k)
        rw [← SeqAt.str_beq]; exact (SeqRoads2.EqGives.str n k tk t).at A s
      · exact eqz_at A s tl y e
def rCntZ (K : PySem.W.Frag) : V → List V → Hp → VK → Prop := fun x xs H Q => ∃ (p : Addr) (ns : List Str) (k : Str), x = .ref p ∧ xs = [.str k] ∧ SqL K H p (ns.map V.str) ∧ Q (.int (ns.count k : Nat)) H
theorem mt_lcountZ : MtR X "list.count" (rCntZ X.K) := by
  intro pins s σ H x xs v us Q I rx rxs h
  obtain ⟨p, ns, k, rfl, rfl, hs, q⟩ := h
  cases rx
  obtain ⟨u, rfl, ru⟩ := rxs.one
  obtain ⟨t, rfl⟩ := ru
  obtain ⟨its, rv, ⟨⟨cls, dd, data, sl⟩, n, ho, hc, hdn, hd⟩, hlen⟩ := I.list hs
  simp only at hc hd
  subst hc hd
  refine call_meets PySem.F.slot_list_count ⟨_, ho, rfl⟩ PySem.F.entry_list_count (PySem.F.args_list_count_2 _ _)
    (SeqAt.list_countAt p its.toArray n dd sl (.str k t) (eqz k)) ⟨ho, fun y hy => eqz_at _ _ rv y (by simpa using hy), ?_⟩
  have ec : its.toArray.toList.countP (eqz k) = ns.count k := eqz_count rv
  refine ⟨.int (ns.count k : Nat), H, I.tok _, ⟨s.toks, ?_⟩, q⟩
  show Value.int ((its.toArray.toList.countP (eqz k) : Nat) : Int) s.toks = Value.int ((ns.count k : Nat) : Int) s.toks
  rw [ec]
def lCnt (i : Nat) (w : DE) (δ : DEnv) (Q : Sl → DEnv → Prop) : Prop := (∃ es, δ[i]? = some (.own es)) ∧ xP w δ fun r δ1 => ∃ z ds ns, r = .pub (.str z) ∧ δ1[i]? = some (.own ds) ∧ strsOf ds = some ns ∧ Q (.pub (.int (ns.count z : Nat))) δ1
theorem d_lcnt (hN : X.N[i]? = some x := by rfl) (ha : PE X e (lE F X.K wa)) (hv : Vis X.env.scope x := by first | exact Or.inl rfl | exact Or.inr (Or.inl rfl) | exact Or.inr (Or.inr rfl))
    (hd : (x == ("__debug__" : Str)) = false := by decide) (hcd : (x == ("__classdict__" : Str)) = false := by decide)
    (hbase : attributeBase (.Name x p) "count" X.env (eval (.Name x p) X.env) = eval (.Name x p) X.env := by rfl)
    (hfew : ((backTo cpos (starEach [e] X.env)).all (fun x => !x.1) && (backToKw cpos (keywordEach [] X.env)).all (fun x => x.1.isSome)
      && decide ([e].length + ([] : List Keyword).length + (if ([] : List Keyword).isEmpty then 0 else 1) < 30)) = true := by rfl)
    (hline : (apos.endLine == cpos.line) = true := by rfl) (hs : starEach [e] X.env = (false, eval e X.env) :: starEach [] X.env := by rfl) (hplain : (backTo cpos (starEach ([] : List Expr) X.env)).any (·.1) = false := by rfl) :
    PE X (.Call (.Attribute (.Name x p) "count" apos) [e] [] cpos) (lE F X.K (lCnt i wa)) := PE.imp (pe_bm PySem.F.plainAttrs_list PySem.F.slot_list_count PySem.F.type_list_count mt_lcountZ (pe_var hN hv hd hcd) (da_cons (d_p ha) da_nil hs) hbase hfew hline hs hplain) fun σ H Q ⟨C, δ, U, k, e1, e2, en, w, q⟩ => by
  obtain ⟨⟨es, hes⟩, w⟩ := w
  obtain ⟨a, vs, h1, h2, h3⟩ := en.own hes
  refine ⟨_, h1, .inl ⟨rfl, vs, SqL.of h2⟩, C, δ, U, fun rs δ1 => ∃ r, rs = [r] ∧ ∃ z ds ns, r = .pub (.str z) ∧ δ1[i]? = some (.own ds) ∧ strsOf ds = some ns ∧ k (.pub (.int (ns.count z : Nat))) δ1, e1, e2, en, ?_, fun rs δ1 hk us H' U' s en' ho => ?_⟩
  · show xP wa δ _
    refine cast (congrArg (xP wa δ) ?_) w
    funext r δ1
    apply propext
    constructor
    · intro h; exact ⟨r, rfl, h⟩
    · rintro ⟨r', e, h⟩; cases e; exact h
  · obtain ⟨r, rfl, z, ds, ns, rfl, hi, hns, hk⟩ := hk
    cases ho with
    | cons o1 o2 o3 =>
      cases o3
      cases o1
      obtain ⟨a', us', g1, g2, g3⟩ := en'.own hi
      rw [h1] at g1
      cases g1
      have hds := strsOf_eq hns
      subst hds
      have hus := DdAll.strs g3
      subst hus
      exact ⟨a, ns, z, rfl, rfl, SqL.of g2, q _ _ hk _ _ U' s en' (show Dd _ _ _ _ from .int _)⟩
def oLtZ : O2
  | .str a, .str b, k => k (.pub (.bool (decide (a.cps.toList < b.cps.toList))))
  | _, _, _ => False
@[simp ↓] theorem oLtZ_s (a b : Str) (k : Sl → Prop) : oLtZ (.str a) (.str b) k = k (.pub (.bool (decide (a.cps.toList < b.cps.toList)))) := rfl
theorem s_ltZ : OpS F X (compareOp .Lt) oLtZ := ⟨_, op_lt_str, fun C H U x y d e k Q e1 e2 w rx ry h q => by
  cases d with
  | str a => cases e with
    | str b => exact ⟨a, b, rx.str, ry.str, fin_pub w (.bl _) h q⟩
    | _ => exact False.elim h
  | _ => exact False.elim h⟩
end
end DX

namespace DX
open PySem PySem.Spec L2 KX
open PyProof.Rows hiding St
/-! comprehensions whose elements change lists of one's own -/
theorem En.wip {C : Ct} {σ : L2.St} {δ : DEnv} {H U : Hp} (en : En C σ δ H U) : ∀ vs : List Nat, En C (wipe σ vs) (DX.wip δ vs) H U
  | [] => en
  | v :: vs => by
    have e := En.wip en vs
    refine ⟨e.wd, by unfold wipe DX.wip; rw [List.length_set, List.length_set]; exact e.len, fun i s h => ?_, fun i j ds es a h1 h2 h3 h4 => ?_⟩
    · unfold DX.wip at h
      unfold wipe
      by_cases q : v = i
      · subst q
        rcases Nat.lt_or_ge v (DX.wip δ vs).length with hv | hv
        · rw [List.getElem?_set_self hv] at h
          cases h
          exact ⟨none, List.getElem?_set_self (by rw [e.len]; exact hv), trivial⟩
        · rw [List.getElem?_eq_none (by rw [List.length_set]; exact hv)] at h; cases h
      · rw [List.getElem?_set_ne q] at h ⊢
        exact e.sl i s h
    · unfold DX.wip at h1 h2
      unfold wipe at h3 h4
      have q1 : v ≠ i := fun z => by
        subst z
        rcases Nat.lt_or_ge v (DX.wip δ vs).length with hv | hv
        · rw [List.getElem?_set_self hv] at h1; cases h1
        · rw [List.getElem?_eq_none (by rw [List.length_set]; exact hv)] at h1; cases h1
      have q2 : v ≠ j := fun z => by
        subst z
        rcases Nat.lt_or_ge v (DX.wip δ vs).length with hv | hv
        · rw [List.getElem?_set_self hv] at h2; cases h2
        · rw [List.getElem?_eq_none (by rw [List.length_set]; exact hv)] at h2; cases h2
      rw [List.getElem?_set_ne q1] at h1 h3
      rw [List.getElem?_set_ne q2] at h2 h4
      exact e.sep i j ds es a h1 h2 h3 h4
theorem wip_get {δ : DEnv} {i : Nat} {s : Sl} : ∀ vs : List Nat, (DX.wip δ vs)[i]? = some s → s = .emp ∨ i ∉ vs
  | [], h => .inr (by simp)
  | v :: vs, h => by
    unfold DX.wip at h
    by_cases q : v = i
    · subst q
      rcases Nat.lt_or_ge v (DX.wip δ vs).length with hv | hv
      · rw [List.getElem?_set_self hv] at h; cases h; exact .inl rfl
      · rw [List.getElem?_eq_none (by rw [List.length_set]; exact hv)] at h; cases h
    · rw [List.getElem?_set_ne q] at h
      rcases wip_get vs h with e | e
      · exact .inl e
      · exact .inr fun z => (List.mem_cons.mp z).elim (fun z => q z.symm) e
theorem wipe_off {σ : L2.St} {i : Nat} : ∀ vs : List Nat, i ∉ vs → (wipe σ vs)[i]? = σ[i]?
  | [], _ => rfl
  | v :: vs, h => by
    unfold wipe
    rw [List.getElem?_set_ne (fun z => h (by rw [z]; exact List.mem_cons_self))]
    exact wipe_off vs fun z => h (List.mem_cons_of_mem _ z)
theorem En.unwip {C : Ct} {σ : L2.St} {δ : DEnv} {H U : Hp} {vs : List Nat} (en : En C (wipe σ vs) (DX.wip δ vs) H U) : En C σ (DX.wip δ vs) H U := by
  have hl : σ.length = (DX.wip δ vs).length := by rw [← en.len, wipe_length]
  refine ⟨en.wd, hl, fun i s h => ?_, fun i j ds es a h1 h2 h3 h4 => ?_⟩
  · rcases wip_get vs h with e | e
    · subst e
      have : i < σ.length := by
        rw [hl]
        exact (List.getElem?_eq_some_iff.mp h).1
      exact ⟨σ[i], List.getElem?_eq_getElem this, by cases σ[i] <;> trivial⟩
    · obtain ⟨o, g1, g2⟩ := en.sl i s h
      rw [wipe_off vs e] at g1
      exact ⟨o, g1, g2⟩
  · rcases wip_get vs h1 with e | e
    · cases e
    · rcases wip_get vs h2 with e' | e'
      · cases e'
      · exact en.sep i j ds es a h1 h2 (by rw [wipe_off vs e]; exact h3) (by rw [wipe_off vs e']; exact h4)
/-- a hidden list is changed -/
theorem En.updH {C : Ct} {σ : L2.St} {δ : DEnv} {H U : Hp} {D : Addr} {o : HO} (en : En C σ δ H U) (hl : ∃ vs, H D = some (.lst vs)) (h0 : C.H0 D = none) (hu : U D = none) (hr : ¬ Rm C.R D) (hn : ∀ (i : Nat) es, δ[i]? = some (.own es) → σ[i]? ≠ some (some (V.ref D))) : En C σ δ (upd H D o) U := by
  refine ⟨⟨fun a u e => ?_, fun a u hra e => ?_, en.wd.vold, en.wd.new, fun d c e => ?_, en.wd.rv, en.wd.r0⟩, en.len, fun i s h => ?_, en.sep⟩
  · have q : a ≠ D := fun z => by subst z; rw [hu] at e; cases e
    rw [upd_ne q]; exact en.wd.sub a u e
  · have q : a ≠ D := fun z => by subst z; rw [h0] at e; cases e
    rw [upd_ne q]; exact en.wd.old a u hra e
  · exact C.F.frame (en.wd.rok d c e) (upd_ne fun z => hr ⟨d, c, e, .inl z.symm⟩) (fun b hb => upd_ne fun z => hr ⟨d, c, e, .inr (z ▸ hb)⟩)
  · obtain ⟨p, g1, g2⟩ := en.sl i s h
    refine ⟨p, g1, ?_⟩
    cases s with
    | own ds =>
      cases p with
      | none => exact g2
      | some v =>
        obtain ⟨b, rfl, k0, k1, us, k2, k3⟩ := g2
        have q : b ≠ D := fun z => by subst z; exact hn i ds h g1
        exact ⟨b, rfl, k0, k1, us, by rw [upd_ne q]; exact k2, k3⟩
    | emp => cases p <;> trivial
    | pub d => cases p <;> exact g2
    | var j => cases p <;> exact g2
    | sup => cases p <;> exact g2
    | supn n =>
      cases p with
      | none => exact g2
      | some v =>
        obtain ⟨d, c, z1, z2, z3⟩ := g2
        exact ⟨d, c, z1, z2, C.F.leF z3 (upd_ne fun z => hr ⟨d, c, z1, .inl z.symm⟩) (fun b hb => upd_ne fun z => hr ⟨d, c, z1, .inr (z ▸ hb)⟩)⟩
    | dto ns =>
      cases p with
      | none => exact g2
      | some v =>
        obtain ⟨b, rfl, b0, b1, xs, hx, b3⟩ := g2
        have q : b ≠ D := fun z => by subst z; obtain ⟨vs, hl⟩ := hl; rw [hl] at hx; cases hx
        exact ⟨b, rfl, b0, b1, xs, by rw [upd_ne q]; exact hx, b3⟩
def lcGoM (g : DG) (tt : DT) (te : DE) (vs : List Nat) : List PyData → DEnv → List PyData → (List PyData → DEnv → Prop) → Prop
  | [], δ, acc, Q => Q acc δ
  | x :: xs, δ, acc, Q => g (.pub x) δ fun δ1 => tt δ1 fun b δ2 => if b = true then te δ2 fun r δ3 => ∃ d, pubD r = some d ∧ lcGoM g tt te vs xs (DX.wip δ3 vs) (acc ++ [d]) Q else lcGoM g tt te vs xs (DX.wip δ2 vs) acc Q
def xLcM (vs : List Nat) (it : DI) (g : DG) (tt : DT) (te : DE) (δ : DEnv) (Q : Sl → DEnv → Prop) : Prop := it δ fun xs δ1 => xs.length ≤ 10000 ∧ lcGoM g tt te vs xs (DX.wip δ1 vs) [] fun acc δ' => Q (.own acc) δ'
@[simp ↓] theorem xLcM_s {it : DI} {g : DG} {tt : DT} {te : DE} (vs : List Nat) (δ : DEnv) (Q : Sl → DEnv → Prop) : xLcM vs it g tt te δ Q = it δ fun xs δ1 => xs.length ≤ 10000 ∧ lcGoM g tt te vs xs (DX.wip δ1 vs) [] fun acc δ' => Q (.own acc) δ' := rfl
section
variable {X : Cx} {F : Fam} {tg : Expr} {pos : Pos}
theorem lcM_ok {b : Bool} {it : DI} {g : TG} {dg : DG} {tt : DT} {te : DE} {vs : List Nat} (hg : TgOk b vs X.K g dg) (hgm : ∀ v σ H (Q Q' : L2.St → Hp → Prop), g v σ H Q → (∀ σ H, Q σ H → Q' σ H) → g v σ H Q') {σ : L2.St} {H : Hp} {Q : VK} (h : lE F X.K (xLcM vs it dg tt te) σ H Q) : tLc (lI b F X.K it) g (lT F X.K tt) (lE F X.K te) vs σ H Q := by
  obtain ⟨C, δ, U, k, e1, e2, en, w, q⟩ := h
  refine ⟨C, δ, U, _, e1, e2, en, w, fun xs δ1 hk J H1 U1 s1 en1 hw => ?_⟩
  obtain ⟨hlen, hk⟩ := hk
  intro D hD
  obtain ⟨G, Y, wk, hG, hY⟩ := (hw C e1).ex
  have nR : ¬ Rm C.R D := fun z => en1.wd.live z hD
  have h0 : C.H0 D = none := by
    cases z : C.H0 D with
    | none => rfl
    | some o => rw [en1.wd.old D o nR z] at hD; cases hD
  have u0 : C.U0 D = none := by
    cases z : C.U0 D with
    | none => rfl
    | some o => rw [en1.wd.sub _ _ (en1.wd.vold _ _ z)] at hD; cases hD
  have noRef : ∀ (i : Nat) es, δ1[i]? = some (.own es) → σ[i]? ≠ some (some (V.ref D)) := fun i es hi hs => by
    obtain ⟨o, g1, g2⟩ := en1.sl i _ hi
    rw [hs] at g1; cases g1
    obtain ⟨a, z, _, _, ws, hh, _⟩ := g2
    cases z; rw [hD] at hh; cases hh
  refine lc_it wk (fun i H => ∃ U ws acc δ', En C (wipe σ vs) (DX.wip δ' vs) H U ∧ Same U1 U ∧ H D = some (.lst ws) ∧ U D = none ∧ (∀ (i : Nat) es, (DX.wip δ' vs)[i]? = some (.own es) → (wipe σ vs)[i]? ≠ some (some (V.ref D))) ∧ DdAll C.K U ws acc ∧ acc.length ≤ i ∧ lcGoM dg tt te vs (xs.drop i) (DX.wip δ' vs) acc fun acc δ' => k (.own acc) δ') ?_ ?_ ?_ ?_
  · have en2 := (en1.ext (Ext.priv (o := .lst []) en1.wd hD)).wip vs
    refine ⟨U1, [], [], δ1, en2, Same.refl _, upd_same, en1.wd.noneU hD, fun i es hi hs => ?_, .nil, Nat.le_refl _, hk⟩
    obtain ⟨o, g1, g2⟩ := (en1.wip vs).sl i _ hi
    rw [hs] at g1; cases g1
    obtain ⟨a, z, _, _, ws, hh, _⟩ := g2
    cases z; rw [hD] at hh; cases hh
  · rintro i H hi ⟨U, ws, acc, δ', en, us, _⟩
    exact hG H U us en.wd.sub
  · rintro i v H H2 hi ⟨U, ws, acc, δ', en, us, hd, ud, nr, da, la, hgo⟩ y
    obtain ⟨U2, d, x2, hxd, hv⟩ := hY i H U v H2 en.wd us hi y
    have hd2 : H2 D = some (.lst ws) := x2.same D _ nR hd
    have ud2 : U2 D = none := by
      cases z : U2 D with
      | none => rfl
      | some o =>
        rcases x2.new D o z with y | y
        · rw [ud] at y; cases y
        · rw [hd] at y; cases y
    have e3 : xs.drop i = d :: xs.drop (i + 1) := by
      obtain ⟨h1, h2⟩ := List.getElem?_eq_some_iff.mp hxd
      rw [List.drop_eq_getElem_cons h1, h2]
    rw [e3] at hgo
    have en2 : En (C.keep D ws) (wipe σ vs) (DX.wip δ' vs) H2 U2 := (en.ext x2).keep h0 ud2 hd2 nr
    refine hgm _ _ _ _ _ (hg.run (C.keep D ws) σ _ H2 U2 v d _ e1 en2 hv hgo) fun σ3 H3 ⟨hH, hw3, δ3, hk3, en3⟩ => ?_
    subst hH
    refine ⟨hw3, C.keep D ws, δ3, U2, _, e1, e2, en3, hk3, fun b δ4 hk4 H4 U4 s4 en4 => ?_⟩
    cases b with
    | true =>
      refine iteT ⟨C.keep D ws, δ4, U4, _, e1, e2, en4, (by simpa using hk4), fun r δ5 hk5 y H5 U5 s5 en5 o5 => ?_⟩
      obtain ⟨d5, hr5, hk5⟩ := hk5
      obtain ⟨U6, s6, en6, ho6⟩ := hold_of en5 o5
      obtain ⟨en7, ud6, hd6, nr6⟩ := (hw3 ▸ en6.wip vs).unkeep h0 u0 nR
      have dd : Dd C.K U6 y d5 := by cases r <;> cases hr5 <;> exact ho6
      refine ⟨ws, hd6, by rw [da.len]; exact line10' (by omega), ?_⟩
      exact ⟨U6, ws ++ [y], acc ++ [d5], δ5, en7.updH ⟨_, hd6⟩ h0 ud6 nR nr6, us.trans (x2.us.trans (s4.trans (s5.trans s6))), upd_same, ud6, nr6, (da.same (x2.us.trans (s4.trans (s5.trans s6)))).app (.cons dd .nil), by simp; omega, hk5⟩
    | false =>
      obtain ⟨en7, ud6, hd6, nr6⟩ := (hw3 ▸ en4.wip vs).unkeep h0 u0 nR
      refine iteF ⟨U4, ws, acc, δ4, en7, us.trans (x2.us.trans s4), hd6, ud6, nr6, da.same (x2.us.trans s4), by omega, by simpa using hk4⟩
  · rintro H ⟨U, ws, acc, δ', en, us, hd, ud, nr, da, la, hgo⟩
    rw [List.drop_length] at hgo
    have en' := en.unwip
    refine q _ _ hgo _ H U (s1.trans us) en' ⟨D, rfl, ⟨h0, ud, ws, hd, da⟩, fun i es hi => ?_⟩
    rcases wip_get vs hi with e | e
    · cases e
    · have := nr i es hi
      rw [wipe_off vs e] at this
      exact this
variable {wk : Bool} {elt iter : Expr} {ifs : List Expr} {scope : Scope} {own : List (Str × Nat)} {it : DI} {g : TG} {dg : DG} {tt : DT} {te : DE}
theorem d_lcM (hc : X.calm = true) (hN : X.N.Nodup) (hi : PI X tg iter (lI wk F X.K it)) (ok : BlkOk X.N X.env.scope scope own) (tok : TgOk wk (own.map (·.2)) X.K g dg) (hgm : ∀ v σ H (Q Q' : L2.St → Hp → Prop), g v σ H Q → (∀ σ H, Q σ H → Q' σ H) → g v σ H Q')
    (hg : ∀ (s : Shared) (H : Hp) (C : Addr) (cl : List (Str × Addr)) (fp : List Addr), PG (X.blk s H scope (compEnvC scope cl C X.env) fp) tg g) (ht : ∀ (s : Shared) (H : Hp) (C : Addr) (cl : List (Str × Addr)) (fp : List Addr), PTs (X.blk s H scope (compEnvC scope cl C X.env) fp) ifs (lT F X.K tt))
    (he : ∀ (s : Shared) (H : Hp) (C : Addr) (cl : List (Str × Addr)) (fp : List Addr), PE (X.blk s H scope (compEnvC scope cl C X.env) fp) elt (lE F X.K te)) (hs : ∀ x, foldedSetIterable iter X.env x = pure x := by intro _; rfl) :
    PE X (.ListComp elt [⟨tg, iter, ifs, 0⟩] scope pos) (lE F X.K (xLcM (own.map (·.2)) it dg tt te)) := PE.imp (pe_lc hc hN hi ok hg ht he hs) fun σ H Q h => lcM_ok tok hgm h
theorem ds_setLcM {i : Nat} {y : Str} {py spos : Pos} (hc : X.calm = true) (hN : X.N.Nodup) (hy : X.N[i]? = some y) (hyl : X.env.scope.names.lookup y = some .local)
    (hsw : swapsWith (.ListComp elt [⟨tg, iter, ifs, 0⟩] scope pos) (some (.Name y py)) spos.line X.env = pure true) (hi : PI X tg iter (lI wk F X.K it)) (ok : BlkOk X.N X.env.scope scope own) (tok : TgOk wk (own.map (·.2)) X.K g dg) (hgm : ∀ v σ H (Q Q' : L2.St → Hp → Prop), g v σ H Q → (∀ σ H, Q σ H → Q' σ H) → g v σ H Q')
    (hg : ∀ (s : Shared) (H : Hp) (C : Addr) (cl : List (Str × Addr)) (fp : List Addr), PG (X.blk s H scope (compEnvC scope cl C X.env) fp) tg g) (ht : ∀ (s : Shared) (H : Hp) (C : Addr) (cl : List (Str × Addr)) (fp : List Addr), PTs (X.blk s H scope (compEnvC scope cl C X.env) fp) ifs (lT F X.K tt))
    (he : ∀ (s : Shared) (H : Hp) (C : Addr) (cl : List (Str × Addr)) (fp : List Addr), PE (X.blk s H scope (compEnvC scope cl C X.env) fp) elt (lE F X.K te)) (hs : ∀ x, foldedSetIterable iter X.env x = pure x := by intro _; rfl) :
    PS X (.Assign [.Name y py] (.ListComp elt [⟨tg, iter, ifs, 0⟩] scope pos) spos) (lS F X.K (sAsg (xLcM (own.map (·.2)) it dg tt te) (gN i))) := PS.imp (ps_setLc hc hN hy hyl hsw hi ok hg ht he hs) fun D σ H ⟨C, δ, U, DD, e1, e2, en, w, okE⟩ => by
  have w : xLcM (own.map (·.2)) it dg tt te δ (fun r δ1 => gN i r δ1 DD.nx) := w
  refine lcM_ok tok hgm ⟨C, _, U, _, e1, e2, en, w, fun r δ' hk v H' U' s en' o => ?_⟩
  obtain ⟨δ2, U2, k2, s2, en2⟩ := gn_ok en' o hk
  exact okE.nx δ2 k2 _ _ U2 en2
end
end DX

namespace DX
open PySem PySem.Spec L2 KX
open PyProof.Rows hiding St
/-! stores whose number of draws must stay small -/
def capN : Nat := 1000000
def Fam.lim (F : Fam) (N : Nat) : Fam where
  ok H d c := F.ok H d c ∧ F.le N H d c ∧ N ≤ capN
  frame h e1 e2 := ⟨F.frame h.1 e1 e2, F.leF h.2.1 e1 e2, h.2.2⟩
  liveD h := F.liveD h.1
  liveC h := F.liveC h.1
  triv := False
  le := F.le
  leT h := h.elim
  leF := F.leF
  leM := F.leM
def bmp (m : Nat) : Sl → Sl
  | .supn _ => .supn m
  | s => s
def bump (m : Nat) (δ : DEnv) : DEnv := δ.map (bmp m)
def unS : Sl → Sl
  | .supn _ => .sup
  | s => s
def inS (n : Nat) : Sl → Sl
  | .sup => .supn n
  | s => s
def okArgS : Sl → Bool
  | .pub _ => true
  | .supn _ => true
  | _ => false
def isPub : Sl → Bool
  | .pub _ => true
  | _ => false
def spDS (F : Fam) (K : PySem.W.Frag) (c : Nat) (f : DF) : Sp := fun vs H Q _ => ∃ C U as k n N, C.K = K ∧ C.F = F.lim N ∧ C.H0 = H ∧ C.U0 = U ∧ Wd C H U ∧ Paired (ArOk C U) vs as ∧ (∃ d cc, C.R = some (d, cc) ∧ F.le n H d cc) ∧ n + c ≤ N ∧ f as k ∧
  ∀ r, k r → ∀ v H' U', Ext C H U H' U' → (∀ d cc, C.R = some (d, cc) → F.le (n + c) H' d cc) → NewOk C H H' U' v r → Q v H'
def xCallS (i c N : Nat) (f : DF) (ws : DA) (δ : DEnv) (Q : Sl → DEnv → Prop) : Prop := ws δ fun rs δ1 => rs.all okArgS = true ∧ ∃ n, δ1[i]? = some (.supn n) ∧ n + c ≤ N ∧ f (rs.map unS) fun r => Q r (bump (n + c) δ1)
theorem arOkS_of {C : Ct} {σ : L2.St} {U : Hp} : ∀ {rs : List Sl} {vs : List V}, rs.all okArgS = true → HoldAll C σ U vs rs → Paired (ArOk C U) vs (rs.map unS)
  | [], _, _, .nil => .nil
  | r :: rs, _, h, .cons h1 h2 => by
    rw [List.all_cons, Bool.and_eq_true] at h
    refine .cons ?_ (arOkS_of h.2 h2)
    cases r with
    | pub d => exact h1
    | supn n => exact h1
    | dto n => exact h1.elim
    | sup => exact absurd h.1 (by simp [okArgS])
    | emp => exact absurd h.1 (by simp [okArgS])
    | own _ => exact absurd h.1 (by simp [okArgS])
    | var _ => exact absurd h.1 (by simp [okArgS])
theorem bmp_own {m : Nat} {s : Sl} {es : List PyData} (h : bmp m s = .own es) : s = .own es := by cases s <;> simp [bmp] at h ⊢; exact h
theorem bump_get {m : Nat} {δ : DEnv} {i : Nat} {s : Sl} (h : (bump m δ)[i]? = some s) : ∃ s', δ[i]? = some s' ∧ s = bmp m s' := by
  unfold bump at h
  rw [List.getElem?_map] at h
  cases e : δ[i]? with
  | none => rw [e] at h; cases h
  | some s' => rw [e] at h; exact ⟨s', rfl, by simpa using h.symm⟩
theorem bump_own {m : Nat} {δ : DEnv} {i : Nat} {es : List PyData} (h : (bump m δ)[i]? = some (.own es)) : δ[i]? = some (.own es) := by
  obtain ⟨s', h1, h2⟩ := bump_get h
  rw [h1, bmp_own h2.symm]
/-- after a call that draws -/
theorem En.extS {C : Ct} {σ : L2.St} {δ : DEnv} {H U H' U' : Hp} {m : Nat} (e : En C σ δ H U) (x : Ext C H U H' U') (hl : ∀ d c, C.R = some (d, c) → C.F.le m H' d c) : En C σ (bump m δ) H' U' := by
  refine ⟨e.wd.ext x, by unfold bump; rw [List.length_map]; exact e.len, fun i s h => ?_, fun i j ds es a h1 h2 h3 h4 => e.sep i j ds es a (bump_own h1) (bump_own h2) h3 h4⟩
  obtain ⟨s', g1, rfl⟩ := bump_get h
  obtain ⟨o, g2, g3⟩ := e.sl i s' g1
  refine ⟨o, g2, ?_⟩
  cases s' with
  | emp => cases o <;> trivial
  | pub d => cases o with
    | none => exact g3
    | some v => exact Dd.same x.us g3
  | own ds => cases o with
    | none => exact g3
    | some v =>
      obtain ⟨a, e', o⟩ := g3
      exact ⟨a, e', o.ext e.wd x⟩
  | var i => cases o <;> exact g3
  | sup => cases o <;> exact g3
  | supn n => cases o with
    | none => exact g3
    | some v =>
      obtain ⟨d, c, z1, z2, _⟩ := g3
      exact ⟨d, c, z1, z2, hl d c z1⟩
  | dto ns => cases o with
    | none => exact g3
    | some v =>
      obtain ⟨a, e', o⟩ := g3
      exact ⟨a, e', o.ext e.wd x⟩
theorem rs_bump {C : Ct} {σ : L2.St} {δ : DEnv} {H U : Hp} {v : V} {m : Nat} : ∀ {r : Sl}, RsOk C σ δ H U v r → RsOk C σ (bump m δ) H U v r
  | .pub _, h => h
  | .sup, h => h
  | .supn _, h => h
  | .dto _, h => h
  | .var _, h => h
  | .emp, h => h
  | .own _, ⟨a, h1, h2, h3⟩ => ⟨a, h1, h2, fun i es z => h3 i es (bump_own z)⟩
section
variable {X : Cx} {F F0 : Fam} {ws : DA} {e : Expr} {es : List Expr} {pos : Pos}
theorem callS_of {f : DF} {i c N : Nat} {σ : L2.St} {H : Hp} {Q : VK} {E : XK} (h : lE (F.lim N) X.K (xCallS i c N f ws) σ H Q) : tCall (spDS F X.K c f) [] E (lA (F.lim N) X.K ws) σ H Q := by
  obtain ⟨C, δ, U, k, e1, e2, en, w, q⟩ := h
  refine ⟨C, δ, U, _, e1, e2, en, w, fun rs δ' hk vs H' U0 s0 en0 ho => ?_⟩
  obtain ⟨U', s1, en', ho⟩ := hold_all en0 ho
  have s := s0.trans s1
  obtain ⟨h1, n, hi, hn, h2⟩ := hk
  obtain ⟨o, g1, g2⟩ := en'.sl i _ hi
  cases o with
  | none => exact g2.elim
  | some v0 =>
    obtain ⟨d, cc, z1, z2, z3⟩ := g2
    rw [e2] at z3
    rw [List.append_nil]
    refine ⟨{ C with H0 := H', U0 := U' }, U', rs.map unS, _, n, N, e1, e2, rfl, rfl, en'.wd.self, arOkS_of h1 ho, ⟨d, cc, z1, z3⟩, hn, h2, fun r hr v H2 U2 x hl ok => ?_⟩
    · have x' : Ext C H' U' H2 U2 := ⟨x.same, x.us, x.sub, x.new, x.rok⟩
      refine q r _ hr v H2 U2 (s.trans x.us) (en'.extS x' fun d c e => by rw [e2]; exact hl d c e) (rs_bump (rs_new en' x' ?_))
      cases r <;> exact ok
/-- a call of a def that sees no store -/
theorem callP_of {f : DF} {σ : L2.St} {H : Hp} {Q : VK} {E : XK} (hp : ∀ as k, f as k → as.all isPub = true) (h : lE F X.K (xCall f ws) σ H Q) : tCall (spD F0 X.K f) [] E (lA F X.K ws) σ H Q := by
  obtain ⟨C, δ, U, k, e1, e2, en, w, q⟩ := h
  refine ⟨C, δ, U, _, e1, e2, en, w, fun rs δ' hk vs H' U0 s0 en0 ho => ?_⟩
  obtain ⟨U', s1, en', ho⟩ := hold_all en0 ho
  have s := s0.trans s1
  obtain ⟨h1, h2⟩ := hk
  have hp := hp _ _ h2
  rw [List.append_nil]
  have nr : ∀ a, ¬ Rm (none : Option (Addr × List Addr)) a := fun a ⟨_, _, e, _⟩ => nomatch e
  have wd' : Wd ⟨C.K, F0, none, H', U'⟩ H' U' := ⟨en'.wd.sub, fun _ _ _ e => e, Same.refl _, fun _ _ e => .inl e, (fun _ _ e => nomatch e), (fun a hr => absurd hr (nr a)), (fun a hr => absurd hr (nr a))⟩
  have args : ∀ {rs : List Sl} {vs : List V}, rs.all isPub = true → Paired (ArOk C U') vs rs → Paired (ArOk ⟨C.K, F0, none, H', U'⟩ U') vs rs := by
    intro rs vs h ho
    induction ho with
    | nil => exact .nil
    | @cons v r vs rs a b ih =>
      rw [List.all_cons, Bool.and_eq_true] at h
      refine .cons ?_ (ih h.2)
      cases r with
      | pub d => exact a
      | _ => exact absurd h.1 (by simp [isPub])
  refine ⟨⟨C.K, F0, none, H', U'⟩, U', rs, _, e1, rfl, rfl, rfl, wd', args hp (arOk_of h1 ho), h2, fun r hr v H2 U2 x ok => ?_⟩
  have st : ∀ a, H' a ≠ none → H2 a = H' a := fun a ha => by
    cases z : H' a with
    | none => exact absurd z ha
    | some o => exact x.same a o (nr a) z
  have x' : ExtK C H' U' H2 U2 := ⟨⟨fun a o _ e => x.same a o (nr a) e, x.us, x.sub, x.new, fun d c e => C.F.frame (en'.wd.rok d c e) (st d (C.F.liveD (en'.wd.rok d c e))) (fun a ha => st a (C.F.liveC (en'.wd.rok d c e) a ha))⟩,
    fun d c n e h => C.F.leF h (st d (C.F.liveD (en'.wd.rok d c e))) (fun a ha => st a (C.F.liveC (en'.wd.rok d c e) a ha))⟩
  refine q r δ' hr v H2 U2 (s.trans x.us) (en'.ext x') (rs_new en' x' ?_)
  cases r <;> exact ok
variable {x : Str} {p : Pos} {k : Nat} {f : Addr} {fd : FuncData} {ps : List Str} {df : DF}
theorem d_callS {i c N : Nat} (G : FnOkG X.prog X.w X.K X.mg X.base CX0 k f fd ps (spDS F X.K c df)) (hgd : X.A.guards = some []) (hr : Room k X.A) (hg : Gl X x) (hm : X.mg x = some (.ref f)) (hk : PySem.W.keepIn X.K (.ref f) = true) (hb : Binds X.K fd ps [])
    (ha : PA X (e :: es) (lA (F.lim N) X.K ws)) (hdb : (x == ("__debug__" : Str)) = false := by decide) (he : starEach (e :: es) X.env = (false, eval e X.env) :: starEach es X.env := by rfl) (hpl : (backTo pos (starEach es X.env)).any (·.1) = false := by rfl) :
    PE X (.Call (.Name x p) (e :: es) [] pos) (lE (F.lim N) X.K (xCallS i c N df ws)) := PE.imp (pe_callG G hgd hr hg hm hk hb .nil pass0 ha hdb he hpl) fun σ H Q h => callS_of h
theorem d_callP (G : FnOkG X.prog X.w X.K X.mg X.base CX0 k f fd ps (spD F0 X.K df)) (hgd : X.A.guards = some []) (hr : Room k X.A) (hg : Gl X x) (hm : X.mg x = some (.ref f)) (hk : PySem.W.keepIn X.K (.ref f) = true) (hb : Binds X.K fd ps [])
    (hp : ∀ as k, df as k → as.all isPub = true)
    (ha : PA X (e :: es) (lA F X.K ws)) (hdb : (x == ("__debug__" : Str)) = false := by decide) (he : starEach (e :: es) X.env = (false, eval e X.env) :: starEach es X.env := by rfl) (hpl : (backTo pos (starEach es X.env)).any (·.1) = false := by rfl) :
    PE X (.Call (.Name x p) (e :: es) [] pos) (lE F X.K (xCall df ws)) := PE.imp (pe_callG G hgd hr hg hm hk hb .nil pass0 ha hdb he hpl) fun σ H Q h => callP_of hp h
end
theorem inS_own {n : Nat} {s : Sl} {es : List PyData} (h : inS n s = .own es) : s = .own es := by cases s <;> simp [inS] at h ⊢; exact h
theorem En.inS {C : Ct} {σ : L2.St} {δ : DEnv} {H U : Hp} {n : Nat} (e : En C σ δ H U) (hl : ∀ d c, C.R = some (d, c) → C.F.le n H d c) : En C σ (δ.map (DX.inS n)) H U := by
  have gt : ∀ {i : Nat} {s : Sl}, (δ.map (DX.inS n))[i]? = some s → ∃ s', δ[i]? = some s' ∧ s = DX.inS n s' := fun {i s} h => by
    rw [List.getElem?_map] at h
    cases e : δ[i]? with
    | none => rw [e] at h; cases h
    | some s' => rw [e] at h; exact ⟨s', rfl, by simpa using h.symm⟩
  have go : ∀ {i : Nat} {es : List PyData}, (δ.map (DX.inS n))[i]? = some (.own es) → δ[i]? = some (.own es) := fun {i es} h => by
    obtain ⟨s', h1, h2⟩ := gt h
    rw [h1, inS_own h2.symm]
  refine ⟨e.wd, by rw [List.length_map]; exact e.len, fun i s h => ?_, fun i j ds es a h1 h2 h3 h4 => e.sep i j ds es a (go h1) (go h2) h3 h4⟩
  obtain ⟨s', g1, rfl⟩ := gt h
  obtain ⟨o, g2, g3⟩ := e.sl i s' g1
  refine ⟨o, g2, ?_⟩
  cases s' with
  | sup => cases o with
    | none => exact g3
    | some v =>
      obtain ⟨d, c, z1, z2⟩ := g3
      exact ⟨d, c, z1, z2, hl d c z1⟩
  | emp => exact g3
  | pub d => exact g3
  | own ds => exact g3
  | var i => exact g3
  | supn n => exact g3
  | dto n => exact g3
section
variable {F : Fam} {P : Program} {w : World} {K : PySem.W.Frag} {mg : Str → Option Value} {base : Heap} {N ps : List Str} {k : Nat} {x qual : Str} {st : Stmt} {f : Addr} {fd : FuncData} {x0 : Str}
theorem okDS {c : Nat} (Fn : Fun K x qual st f fd) (S : FnScope N ps (defScope st)) {wd : Nat → DS} {df : DF} (hl : ∀ as k, df as k → as.length = ps.length) (hN : ps.length ≤ N.length)
    (hb : ∀ (M : Nat) (cdv : Value) (A : Around) (outer : List Env) (s : Shared) (H : Hp) (E : XK), A.guards = some [] → Room k (A.deeper (envOfC qual (defScope st) s.heap.objs.size f cdv)) → PSs (cxOf CX0 P w K mg base N qual (defScope st) f cdv A outer s H E).nox (defBody st) (lS (F.lim M) K (wd M)))
    (hd : ∀ n as k, n + c ≤ capN → df as k → wd (n + c) { nx := fun _ => k (.pub .none), rt := k } ((as.map (DX.inS n)) ++ List.replicate (N.length - as.length) .emp)) : FnOkG P w K mg base CX0 (k + 1) f fd ps (spDS F K c df) := by
  refine Fun.okG Fn S (fun vs H Q E h => ?_) fun cdv A outer s H vs Q E hgd hr h => ?_
  · obtain ⟨C, U, as, k, n, M, e1, e2, e3, e4, wd, ar, hle, hnc, hf, q⟩ := h
    rw [Paired.length ar]; exact hl as k hf
  · obtain ⟨C, U, as, k, n, M, e1, e2, e3, e4, wd0, ar, hle, hnc, hf, q⟩ := h
    refine ⟨_, hb (n + c) cdv A outer s H E hgd hr, ?_⟩
    have rk : ∀ d cc, C.R = some (d, cc) → F.ok H d cc ∧ F.le M H d cc ∧ M ≤ capN := fun d cc e => by have := wd0.rok d cc e; rw [e2] at this; exact this
    obtain ⟨d0, c0, hR0, hle0⟩ := hle
    have hle : ∀ d cc, C.R = some (d, cc) → F.le n H d cc := fun d cc e => by rw [hR0] at e; cases e; exact hle0
    have cap : n + c ≤ capN := Nat.le_trans hnc (rk _ _ hR0).2.2
    have wd2 : Wd { C with F := F.lim (n + c) } H U := ⟨wd0.sub, wd0.old, wd0.vold, wd0.new, fun d cc e => ⟨(rk d cc e).1, F.leM (Nat.le_add_right _ _) (hle d cc e), cap⟩, wd0.rv, wd0.r0⟩
    have en0 := en_start (C := { C with F := F.lim (n + c) }) (N := N) wd2 (by rw [Paired.length ar, hl as k hf]; exact hN) (show Paired (ArOk { C with F := F.lim (n + c) } U) vs as from ar)
    have en1 := en0.inS (n := n) (fun d cc e => hle d cc e)
    rw [List.map_append, List.map_replicate] at en1
    have hx : ∀ {H' U' : Hp}, Wd { C with F := F.lim (n + c) } H' U' → Ext C H U H' U' := fun w' => ⟨fun a o hr e => w'.old a o hr (e3 ▸ e), e4 ▸ w'.vold, w'.sub, fun a o e => (w'.new a o e).imp (fun z => e4 ▸ z) fun z => e3 ▸ z, fun d cc e => by
      have h := w'.rok d cc e
      rw [e2]
      exact ⟨h.1, F.leM hnc h.2.1, (rk d cc e).2.2⟩⟩
    refine ⟨{ C with F := F.lim (n + c) }, _, U, _, e1, rfl, en1, hd n as k cap hf, fun δ h σ H' U' en => ?_, fun δ h => h.elim, fun δ h => h.elim, fun r h v H' U' w' o => ?_⟩
    · exact q _ h _ H' U' (hx en.wd) (fun d cc e => (en.wd.rok d cc e).2.1) (show Dd _ _ _ _ from .non)
    · refine q r h v H' U' (hx w') (fun d cc e => (w'.rok d cc e).2.1) ?_
      cases r with
      | pub d => exact o
      | own ds => obtain ⟨a, e, h0, hu, h1⟩ := o; exact ⟨a, e, e3 ▸ h0, hu, h1⟩
      | emp => exact o.elim
      | var i => exact o.elim
      | sup => exact o.elim
      | supn n => exact o.elim
      | dto n => exact o.elim
end
end DX

namespace DX
open PySem PySem.Spec L2 KX
open PyProof.Rows hiding St
section
variable {X : Cx} {F : Fam}
def oShl : O2
  | .int a, .int b, k => CPow a b ∧ k (.pub (.int (a * 2 ^ b.toNat)))
  | _, _, _ => False
@[simp ↓] theorem oShl_i (a b : Int) (k : Sl → Prop) : oShl (.int a) (.int b) k = (CPow a b ∧ k (.pub (.int (a * 2 ^ b.toNat)))) := rfl
theorem s_shl : OpS F X (binaryOp .LShift) oShl := ops_int (gd := fun i j => .int (i * 2 ^ j.toNat)) op_shl (fun i j U => .int _) fun d e k h => by
  cases d <;> cases e <;> simp only [oShl] at h; exact ⟨_, _, rfl, rfl, h⟩
def oShr : O2
  | .int a, .int b, k => 0 ≤ b ∧ k (.pub (.int (a / 2 ^ b.toNat)))
  | _, _, _ => False
@[simp ↓] theorem oShr_i (a b : Int) (k : Sl → Prop) : oShr (.int a) (.int b) k = (0 ≤ b ∧ k (.pub (.int (a / 2 ^ b.toNat)))) := rfl
theorem s_shr : OpS F X (binaryOp .RShift) oShr := ops_int (gd := fun i j => .int (i / 2 ^ j.toNat)) op_shr (fun i j U => .int _) fun d e k h => by
  cases d <;> cases e <;> simp only [oShr] at h; exact ⟨_, _, rfl, rfl, h⟩
end
/-! threaded comprehensions -/
theorem lcM_map {α : Type} {g : DG} {tt : DT} {te : DE} {vs : List Nat} (e : α → PyData) (δ : DEnv) (E : α → DEnv) (p : α → Bool) (f : α → PyData) : ∀ (xs : List α) (acc : List PyData) {Q : List PyData → DEnv → Prop}, (∀ x ∈ xs, ∀ k, k (E x) → g (.pub (e x)) δ k) → (∀ x ∈ xs, ∀ k, k (p x) (E x) → tt (E x) k) →
    (∀ x ∈ xs, p x = true → ∀ k, k (.pub (f x)) (E x) → te (E x) k) → (∀ x ∈ xs, DX.wip (E x) vs = δ) → Q (acc ++ (xs.filter p).map f) δ → lcGoM g tt te vs (xs.map e) δ acc Q
  | [], acc, Q, _, _, _, _, h => by
    rw [List.filter_nil, List.map_nil, List.append_nil] at h
    exact h
  | x :: xs, acc, Q, h1, h2, h3, h4, h => by
    show g (.pub (e x)) δ _
    refine h1 x List.mem_cons_self _ ?_
    refine h2 x List.mem_cons_self _ ?_
    have ih := @lcM_map α g tt te vs e δ E p f xs
    have h1' : ∀ x ∈ xs, ∀ k, k (E x) → g (.pub (e x)) δ k := fun y hy => h1 y (List.mem_cons_of_mem _ hy)
    have h2' : ∀ x ∈ xs, ∀ k, k (p x) (E x) → tt (E x) k := fun y hy => h2 y (List.mem_cons_of_mem _ hy)
    have h3' : ∀ x ∈ xs, p x = true → ∀ k, k (.pub (f x)) (E x) → te (E x) k := fun y hy => h3 y (List.mem_cons_of_mem _ hy)
    have h4' : ∀ x ∈ xs, DX.wip (E x) vs = δ := fun y hy => h4 y (List.mem_cons_of_mem _ hy)
    by_cases hp : p x = true
    · rw [if_pos hp]
      refine h3 x List.mem_cons_self hp _ ⟨_, rfl, ?_⟩
      rw [h4 x List.mem_cons_self]
      refine ih _ h1' h2' h3' h4' ?_
      rw [List.filter_cons_of_pos hp] at h
      simpa using h
    · rw [if_neg hp, h4 x List.mem_cons_self]
      refine ih _ h1' h2' h3' h4' ?_
      rw [List.filter_cons_of_neg hp] at h
      exact h
theorem lcM_all {α : Type} {g : DG} {te : DE} {vs : List Nat} (e : α → PyData) (δ : DEnv) (E : α → DEnv) (f : α → PyData) (xs : List α) {Q : List PyData → DEnv → Prop} (hg : ∀ x ∈ xs, ∀ k, k (E x) → g (.pub (e x)) δ k)
    (he : ∀ x ∈ xs, ∀ k, k (.pub (f x)) (E x) → te (E x) k) (hw : ∀ x ∈ xs, DX.wip (E x) vs = δ) (h : Q (xs.map f) δ) : lcGoM g tYes' te vs (xs.map e) δ [] Q :=
  lcM_map e δ E (fun _ => true) f xs [] hg (fun _ _ _ h => h) (fun x hx _ => he x hx) hw (by rw [List.filter_eq_self.mpr (fun _ _ => rfl)]; exact h)
/-- one that draws: an invariant over what is left -/
theorem lcM_inv {α : Type} {g : DG} {tt : DT} {te : DE} {vs : List Nat} (e : α → PyData) (I : List α → List PyData → DEnv → Prop) {Q : List PyData → DEnv → Prop} (hs : ∀ x xs acc δ (N : List PyData → DEnv → Prop), (∀ acc' δ', I xs acc' δ' → N acc' δ') → I (x :: xs) acc δ → g (.pub (e x)) δ fun δ1 => tt δ1 fun b δ2 => if b = true then te δ2 fun r δ3 => ∃ d, pubD r = some d ∧ N (acc ++ [d]) (DX.wip δ3 vs) else N acc (DX.wip δ2 vs))
    (he : ∀ acc δ, I [] acc δ → Q acc δ) : ∀ (xs : List α) (acc : List PyData) (δ : DEnv), I xs acc δ → lcGoM g tt te vs (xs.map e) δ acc Q
  | [], acc, δ, h => he acc δ h
  | x :: xs, acc, δ, h => hs x xs acc δ (fun acc δ => lcGoM g tt te vs (xs.map e) δ acc Q) (fun acc' δ' h' => lcM_inv e I hs he xs acc' δ' h') h
/-! slices with step 1 -/
theorem pickD_one (xs : List PyData) : pickD xs none none (some 1) = xs := by
  have e : sliceRange 0 (xs.length : Int) 1 = List.range xs.length := by
    unfold sliceRange
    rw [if_pos (by decide)]
    have : ((if (xs.length : Int) > 0 then ((xs.length : Int) - 0 + 1 - 1) / 1 else 0) : Int).toNat = xs.length := by
      split
      · rw [Int.ediv_one]; omega
      · omega
    show (List.range (if (0 : Int) < xs.length then ((xs.length : Int) - 0 + 1 - 1) / 1 else 0).toNat).map (fun k : Nat => (0 + 1 * (k : Int)).toNat) = _
    have this : ((if (0 : Int) < xs.length then ((xs.length : Int) - 0 + 1 - 1) / 1 else 0) : Int).toNat = xs.length := this
    rw [this]
    conv => rhs; rw [← List.map_id (List.range xs.length)]
    apply List.map_congr_left
    intro k _
    show (0 + 1 * (k : Int)).toNat = k
    omega
  show (sliceRange 0 (xs.length : Int) 1).filterMap (xs[·]?) = _
  rw [e, range_get]
end DX

namespace KX
open PySem PySem.Spec L2
open PyProof.Rows hiding St
/-! enumerate(t, start=k), t a tuple -/
section
variable {M : Model} {A : Around} {E : Value → Shared → Prop} {s : Shared} {env : Env}
theorem callWith_typeKw {pos : Pos} {T : String} {e : Expr} {rest : List Expr} {kws : List Keyword} {Q : Value → Shared → Prop}
    (h : wpAny M A (spliced (backTo pos (starEach (e :: rest) env))) (fun vs s₁ => wpAny M A (evalAll ((backToKw pos (keywordEach kws env)).map (·.2)))
      (fun kvs s₂ => wpAny M A (call (.type T) vs (((backToKw pos (keywordEach kws env)).filterMap (·.1)).zip kvs)) Q E s₂) E s₁) E s)
    (he : backTo pos (starEach (e :: rest) env) = (false, eval e env) :: backTo pos (starEach rest env))
    (hplain : (backTo pos (starEach (e :: rest) env)).any (·.1) = false)
    (hall : (backToKw pos (keywordEach kws env)).all (·.1.isSome) = true)
    (hkw : (backToKw pos (keywordEach kws env)).any (·.1.isNone) = false) :
    wpAny M A (callWith pos (.type T) [] (backTo pos (starEach (e :: rest) env)) (backToKw pos (keywordEach kws env))) Q E s := by
  have h2 : wpAny M A (evalArgs (.type T) true (backTo pos (starEach (e :: rest) env)) (backToKw pos (keywordEach kws env))) (fun a s₁ => wpAny M A (call (.type T) ([] ++ a.pos) a.kw) Q E s₁) E s := by
    rw [he] at h ⊢
    exact PyProof.Rows.evalArgs_kwB hall h
  unfold callWith
  refine wpAny_bind (wpAny_holding (wpAny_mono h2 (fun a s₁ h₁ => wpAny_bind (wpAny_standAt ?_)) fun _ _ x => x))
  simp only [hplain, hkw, Bool.or_false]
  refine wpAny_bind (wpAny_pure ?_)
  exact wpAny_bind (wpAny_mono h₁ (fun r s₂ hr => wpAny_bind (wpAny_holding (wpAny_point (wpAny_pure hr)))) fun _ _ x => x)
end
/-- the tuple at a, each item in a new pair -/
def IteO (k0 : Int) (K : PySem.W.Frag) (a : Addr) : It :=
  ⟨fun i H => ∃ (xs : List V) (x : V), SqT K H a xs ∧ xs[i]? = some x, fun i H v H' => ∃ T x, v = .ref T ∧ H T = none ∧ H' = upd H T (.tup [.int (k0 + (i : Nat)), x]) ∧ ∀ xs, SqT K H a xs → xs[i]? = some x, fun i H => ∃ xs : List V, SqT K H a xs ∧ xs.length = i⟩
theorem turnO (k0 : Int) {P : Program} {w : World} {K : PySem.W.Frag} {elts : List Expr} {kk : Nat} {tpos : Pos} (a e it : Addr) :
    Turn P w K (.Tuple elts kk tpos) (IteO k0 K a) [e, it] e (fun i h => (∃ old, IsEnum h e it (k0 + ((i : Nat) : Int)) old) ∧ h.IsTupleIter it a i ∧ e ≠ it) where
  mem := List.mem_cons_self
  obj := fun i h st b hb => by
    obtain ⟨⟨old, he⟩, ⟨o, ho, hc, hd⟩, _⟩ := st
    rcases List.mem_cons.mp hb with z | z
    · subst z; exact ⟨_, he, fun v q => nomatch q⟩
    · obtain rfl : b = it := List.mem_singleton.mp z
      exact ⟨o, ho, fun v q => by rw [hd] at q; cases q⟩
  keep := fun i h h' st k => by
    obtain ⟨⟨old, he⟩, hi, hne⟩ := st
    exact ⟨⟨old, k e List.mem_cons_self _ he⟩, hi.at fun o q => k it (List.mem_cons_of_mem _ List.mem_cons_self) o q, hne⟩
  item := by
    intro X hP hw hK hc i pins s σ H E I hf st hg
    subst hP hw hK
    obtain ⟨⟨old, he⟩, hit, hne⟩ := st
    obtain ⟨xs, x, hq, hx⟩ := hg
    obtain ⟨its, rv, tp, hz⟩ := I.tuple hq
    obtain ⟨u, hu, ru⟩ := rv.get hx
    have hea : e ≠ a := fun z => by
      obtain ⟨o, h1, h2, _⟩ := tp
      rw [← z, show s.heap.get? e = some _ from he] at h1
      cases h1
      exact absurd (Value.type.inj h2) (by decide)
    have hia : a ≠ it := fun z => by
      obtain ⟨o, h1, h2, _⟩ := tp
      obtain ⟨o', g1, g2, _⟩ := hit
      rw [z, g1] at h1
      cases h1
      rw [g2] at h2
      exact absurd (Value.type.inj h2) (by decide)
    have hel : e < s.heap.objs.size := Heap.lt_size he
    have hil : it < s.heap.objs.size := by obtain ⟨_, q, _⟩ := hit; exact Heap.lt_size q
    have hui : its[i]? = some u := hu
    have hlt : i < its.toArray.size := by rw [List.size_toArray]; exact (List.getElem?_eq_some_iff.mp hui).1
    have D := Draws.tuple (prog := X.prog) (w := X.w) (A := X.A.in1) (I.ok.hd hc) it a hia its.toArray
    refine wpAny_pyNext_enum_itemC (A := X.A) D he ⟨hit, tp⟩ hlt hne (fun z => by
      rcases List.mem_cons.mp z with z | z
      · exact hne z
      · exact hea (List.mem_singleton.mp z)) fun y h' tk hy ho st' hT hsz hk => ?_
    have ey : y = u := by
      have q : its.toArray[i]? = some u := by simpa using hui
      exact Option.some.inj (hy.symm.trans q)
    subst ey
    refine ⟨_, rfl, wpAny_letOwnedTupleGo_enum (s := { s with heap := h', toks := tk + 1 }) ho fun h'' he' sb => ?_⟩
    have hT2 : h''.get? s.heap.objs.size = some { cls := .type "tuple", data := .seq #[.int (k0 + (i : Nat)) tk, y] } := (sb.2 _ (Nat.ne_of_gt hel)).trans hT
    have I1 : Inv X pins σ (upd H s.heap.objs.size (.tup [.int (k0 + (i : Nat)), x])) { s with heap := h'', toks := tk + 1 } := by
      refine I.turnedNew (ch := [e, it]) (fun b ob hb q => ?_) hf (Nat.le_refl _) (show ObjOk X.prog X.w _ h'' _ (.tup [.int (k0 + (i : Nat)), x]) from ⟨by show 2 ≤ sizeLine; decide, [.int (k0 + (i : Nat)) tk, y], .cons ⟨_, rfl⟩ (.cons ru .nil), ⟨_, hT2, rfl, _, rfl⟩⟩)
      have b1 : b ≠ e := fun z => hb (z ▸ List.mem_cons_self)
      have b2 : b ≠ it := fun z => hb (z ▸ List.mem_cons_of_mem _ List.mem_cons_self)
      exact (sb.2 b b1).trans (hk b ob b1 b2 q)
    refine ⟨.ref s.heap.objs.size, _, I1, rfl, ⟨_, x, rfl, I.hok.fresh (Nat.le_refl _), rfl, fun ys hy => by rw [I.tuple_inj hy hq]; exact hx⟩, ⟨⟨y, by rw [show k0 + ((i + 1 : Nat) : Int) = k0 + (i : Int) + 1 by omega]; exact he'⟩, st'.1.at fun o q => (sb.2 it (Ne.symm hne)).trans q, hne⟩, fun b hb => ?_⟩
    have hb' : b < s.heap.objs.size := by
      rcases List.mem_cons.mp hb with z | z
      · exact z ▸ hel
      · exact (List.mem_singleton.mp z) ▸ hil
    rw [upd_ne (Nat.ne_of_lt hb')]
    exact (hf b hb).1
  done := by
    intro X hP hw hK hc i pins s σ H E I hf st hg
    subst hP hw hK
    obtain ⟨⟨old, he⟩, hit, hne⟩ := st
    obtain ⟨xs, hq, hx⟩ := hg
    obtain ⟨its, rv, tp, hz⟩ := I.tuple hq
    have hia : a ≠ it := fun z => by
      obtain ⟨o, h1, h2, _⟩ := tp
      obtain ⟨o', g1, g2, _⟩ := hit
      rw [z, g1] at h1
      cases h1
      rw [g2] at h2
      exact absurd (Value.type.inj h2) (by decide)
    obtain ⟨f0, f1, f2, f3, f4, f5⟩ := hf it (List.mem_cons_of_mem _ List.mem_cons_self)
    have D := Draws.tuple (prog := X.prog) (w := X.w) (A := X.A.in1) (I.ok.hd hc) it a hia its.toArray
    have en : i = its.toArray.size := by rw [List.size_toArray, ← rv.length, hx]
    rw [en] at hit
    exact wpAny_pyNext_enum_endD (A := X.A) D he ⟨hit, tp⟩ fun h' eb => ⟨rfl, I.turned (t' := s.toks) (fun b o hb q => eb b o hb q) f0 f1 f3 f4 f5⟩
  self := fun A i s Q E st h => by
    obtain ⟨⟨_, he⟩, _⟩ := st
    exact wpAny_pyIter_enum he h
def iEnumO (k0 : Int) (K : PySem.W.Frag) (ta : TA) : TI := fun σ H R => ta σ H fun vs H1 => ∃ a xs, vs = [.ref a] ∧ SqT K H1 a xs ∧ R (IteO k0 K a) H1
theorem pi_enumO {X : Cx} {e : Expr} {ta : TA} {k0 : Int} {j} {p2 kpos : Pos} {p pos tpos : Pos} {elts : List Expr} {kk : Nat} (h0 : -(2 ^ 63) ≤ k0) (h1 : k0 < 2 ^ 63) (hg : Gl X "enumerate") (hm : X.mg "enumerate" = none) (ha : PA X [e] ta)
    (hks : PK X [⟨some "start", .Constant (.int k0) j p2, kpos⟩] (tCons (tC (.int k0)) tNil))
    (he : backTo pos (starEach [e] X.env) = (false, eval e X.env) :: backTo pos (starEach [] X.env)) (hpl : (backTo pos (starEach [e] X.env)).any (·.1) = false)
    (hall : (backToKw pos (keywordEach [⟨some "start", .Constant (.int k0) j p2, kpos⟩] X.env)).all (·.1.isSome) = true) (hnone : (backToKw pos (keywordEach [⟨some "start", .Constant (.int k0) j p2, kpos⟩] X.env)).any (·.1.isNone) = false) (hkn : (backToKw pos (keywordEach [⟨some "start", .Constant (.int k0) j p2, kpos⟩] X.env)).filterMap (·.1) = [Str.ofString "start"]) :
    PI X (.Tuple elts kk tpos) (.Call (.Name "enumerate" p) [e] [⟨some "start", .Constant (.int k0) j p2, kpos⟩] pos) (iEnumO k0 X.K ta) := by
  constructor
  intro pins s σ H R I h
  refine wpAny_Call_Name_kw (ld_blt I hg hm boot_enumerate ?_)
  refine callWith_typeKw (thn (ha.run pos pins s σ H _ I h) fun us s1 ⟨vs, H1, I1, r1, a, xs, ex, hq, q⟩ => ?_) he hpl hall hnone
  refine thn (hks.run pos pins s1 σ H1 (fun zs H2 => zs = [.int k0] ∧ H2 = H1) I1 ⟨rfl, rfl⟩) fun ws s2 ⟨zs, H2, I2, r2, e2, eH⟩ => ?_
  subst ex e2 eH
  obtain ⟨u, rfl, ru⟩ := vals1 r1
  obtain rfl : u = Value.ref a := ru
  obtain ⟨u2, rfl, ru2⟩ := vals1 r2
  obtain ⟨tk, rfl⟩ := ru2
  obtain ⟨its, rv, tp, hz⟩ := I2.tuple hq
  rw [hkn]
  refine enum_begins_start (begins_tuple a its.toArray) tp h0 h1 fun h' hen hit hsz hk => wpAny_pyIter_enum hen ?_
  have I3 : Inv X pins σ H2 { s2 with heap := h' } := I2.kept (t' := s2.toks) hk
  refine ⟨s2.heap.objs.size + 1, [s2.heap.objs.size + 1, s2.heap.objs.size], _, _, H2, rfl, I3, turnO (k0 := k0) a (s2.heap.objs.size + 1) s2.heap.objs.size, ⟨⟨.none, by rw [show k0 + ((0 : Nat) : Int) = k0 by omega]; exact hen⟩, ⟨_, hit, rfl, rfl⟩, Nat.succ_ne_self _⟩, fun b hb => ?_, q⟩
  have hle : s2.heap.objs.size ≤ b := by
    rcases List.mem_cons.mp hb with z | z
    · rw [z]; exact Nat.le_succ _
    · rw [List.mem_singleton.mp z]; exact Nat.le_refl _
  exact I2.fpOk hle (I2.hok.fresh hle)
end KX
namespace DX
open PySem PySem.Spec L2 KX
open PyProof.Rows hiding St
def pairsO (k0 : Int) (ds : List PyData) : List PyData := (List.range ds.length).map fun i => .tuple [.int (k0 + ((i : Nat) : Int)), ds.getD i .none]
theorem pairsO_len {k0 : Int} {ds : List PyData} : (pairsO k0 ds).length = ds.length := by simp [pairsO]
theorem pairsO_get {k0 : Int} {ds : List PyData} {i : Nat} : (pairsO k0 ds)[i]? = ds[i]?.map fun d => .tuple [.int (k0 + (i : Int)), d] := by
  rcases Nat.lt_or_ge i ds.length with h | h
  · simp [pairsO, List.getElem?_eq_getElem h, h]
  · simp [pairsO, List.getElem?_eq_none h, h]
theorem walk_enumO {k0 : Int} {K : PySem.W.Frag} {a : Addr} {xs : List V} : Walk (IteO k0 K a) xs.length (fun H => SqT K H a xs) (YPair (fun i => some (.int (k0 + (i : Nat)))) (fun i => xs[i]?)) := by
  refine ⟨fun i _ hi q => ⟨xs, xs[i], q, by simp [hi]⟩, fun _ q => ⟨xs, q, rfl⟩, fun i H v H' _ q y => ?_⟩
  obtain ⟨T, x, h1, h2, h3, h4⟩ := y
  exact ⟨T, .int (k0 + (i : Nat)), x, h1, h2, h3, rfl, h4 xs q⟩
def iEO (k0 : Int) (w : DE) (δ : DEnv) (Q : List PyData → DEnv → Prop) : Prop := xP w δ fun r δ' => ∃ ds, r = .pub (.tuple ds) ∧ Q (pairsO k0 ds) δ'
theorem di_enO {X : Cx} {F : Fam} {e : Expr} {wa : DE} {k0 : Int} {j} {p2 kpos : Pos} {p pos tpos : Pos} {elts : List Expr} {kk : Nat} (hg : Gl X "enumerate") (hm : X.mg "enumerate" = none) (ha : PE X e (lE F X.K wa)) (h0 : -(2 ^ 63) ≤ k0 := by decide) (h1 : k0 < 2 ^ 63 := by decide)
    (hks : PK X [⟨some "start", .Constant (.int k0) j p2, kpos⟩] (tCons (tC (.int k0)) tNil) := by exact pk_cons pe_int pk_nil)
    (he : backTo pos (starEach [e] X.env) = (false, eval e X.env) :: backTo pos (starEach [] X.env) := by rfl) (hpl : (backTo pos (starEach [e] X.env)).any (·.1) = false := by rfl)
    (hall : (backToKw pos (keywordEach [⟨some "start", .Constant (.int k0) j p2, kpos⟩] X.env)).all (·.1.isSome) = true := by rfl) (hnone : (backToKw pos (keywordEach [⟨some "start", .Constant (.int k0) j p2, kpos⟩] X.env)).any (·.1.isNone) = false := by rfl) (hkn : (backToKw pos (keywordEach [⟨some "start", .Constant (.int k0) j p2, kpos⟩] X.env)).filterMap (·.1) = [Str.ofString "start"] := by rfl)
    (hs0 : starEach [e] X.env = (false, eval e X.env) :: starEach [] X.env := by rfl) :
    PI X (.Tuple elts kk tpos) (.Call (.Name "enumerate" p) [e] [⟨some "start", .Constant (.int k0) j p2, kpos⟩] pos) (lI false F X.K (iEO k0 wa)) := PI.imp (pi_enumO h0 h1 hg hm (da_cons (d_p ha) da_nil hs0) hks he hpl hall hnone hkn) fun σ H R ⟨C, δ, U, k, e1, e2, en, w, q⟩ => by
  refine ⟨C, δ, U, fun rs δ1 => ∃ r, rs = [r] ∧ ∃ ds, r = .pub (.tuple ds) ∧ k (pairsO k0 ds) δ1, e1, e2, en, ?_, fun rs δ1 hk vs H' U' s en' ho => ?_⟩
  · show xP wa δ _
    refine cast (congrArg (xP wa δ) ?_) w
    funext r δ1
    apply propext
    constructor
    · intro h; exact ⟨r, rfl, h⟩
    · rintro ⟨r', e, h⟩; cases e; exact h
  · obtain ⟨r, rfl, ds, hr, hk⟩ := hk
    cases ho with
    | cons o1 _ o3 =>
      cases o3
      subst hr
      cases o1 with
      | tup hl hall => exact ⟨_, _, rfl, (hl.same en'.wd.sub).sq, q _ δ1 hk _ H' U' s en' fun C' hC => walk_pair walk_enumO (by rw [pairsO_len, hall.len]) (fun H U s1 s2 => (hl.same (s1.trans s2)).sq (K := X.K)) fun i x y hi h1 h2 => by
          cases h1
          obtain ⟨d, h3, h4⟩ := hall.getV h2
          exact ⟨.int (k0 + (i : Int)), d, by rw [pairsO_get, h3]; simp, .int _, by rw [hC, ← e1]; exact h4⟩⟩
end DX

namespace DX
open PySem PySem.Spec L2 KX
open PyProof.Rows hiding St
section
variable {X : Cx} {F : Fam}
/-- tuple < tuple, of ints -/
def oLtT : O2
  | .tuple ds, .tuple es, k => ∃ ns ms : List Int, ds = ns.map PyData.int ∧ es = ms.map PyData.int ∧ k (.pub (.bool (HT.lexLt ns ms)))
  | _, _, _ => False
@[simp ↓] theorem oLtT_t (ds es : List PyData) (k : Sl → Prop) : oLtT (.tuple ds) (.tuple es) k = ∃ ns ms : List Int, ds = ns.map PyData.int ∧ es = ms.map PyData.int ∧ k (.pub (.bool (HT.lexLt ns ms))) := rfl
theorem s_ltT (hu : X.A.units + 64 < cLine) : OpS F X (compareOp .Lt) oLtT := ⟨_, op_ltT (by omega), fun C H U x y d e k Q e1 e2 w rx ry h q => by
  cases d with
  | tuple ds => cases e with
    | tuple es =>
      obtain ⟨ns, ms, rfl, rfl, hk⟩ := h
      obtain ⟨a1, vs, rfl, h1, h2, h5⟩ := rx.tup w
      obtain ⟨a2, us, rfl, h3, h4, h6⟩ := ry.tup w
      exact ⟨a1, a2, ns, ms, rfl, rfl, by rw [← h2.ints]; exact e1 ▸ h1, by rw [← h4.ints]; exact e1 ▸ h3, fin_pub w (.bl _) hk q⟩
    | _ => exact False.elim h
  | _ => exact False.elim h⟩
end
end DX

namespace DX
open PySem PySem.Spec L2 KX
open PyProof.Rows hiding St
section
variable {X : Cx}
/-- the pair at t -/
def PrAt (H : Hp) (x : V) (q : Int × Int) : Prop := ∃ t, x = V.ref t ∧ H t = some (.tup [.int q.1, .int q.2])
theorem prAt_reads {pins : List (Addr × Obj)} {σ : L2.St} {H : Hp} {s : Shared} (I : Inv X pins σ H s) {x : V} {q : Int × Int} (h : PrAt H x q) {v : Value} (r : RelV x v) : Reads s.heap v (pr2 q) [] := by
  obtain ⟨t, rfl, ht⟩ := h
  cases r
  obtain ⟨_, its, rv, o, ho, hc, n, hd⟩ := (show ObjOk X.prog X.w H s.heap t (.tup [.int q.1, .int q.2]) from I.hok t _ ht)
  obtain ⟨u1, u2, rfl, ⟨t1, rfl⟩, ⟨t2, rfl⟩⟩ := rv.two
  exact .tuple ho hc hd (ReadsAll.cons (as := []) (bs := []) (.int _ _) (ReadsAll.cons (as := []) (bs := []) (.int _ _) .nil))
theorem of_eachP {α : Type} {P : V → α → Prop} : ∀ {us : List Value} {ds : List α}, PySem.W.EachIs (fun v d => ∃ x, RelV x v ∧ P x d) us ds → ∃ xs, Vals xs us ∧ Paired P xs ds
  | _, _, .nil => ⟨[], .nil, .nil⟩
  | _, _, .cons ⟨x, r, p⟩ t => by
    obtain ⟨xs, h1, h2⟩ := of_eachP t
    exact ⟨x :: xs, .cons r h1, .cons p h2⟩
/-- sorted(d), the keys of d pairs of ints -/
theorem cr_sortedDT (hc : X.calm = true) (hu : X.A.units + 200 < cLine) : CallR X (.builtin "sorted") (fun xs H Q => ∃ (d : Addr) (kvs : List (List Key × V)) (ns : List (Int × Int)), xs = [V.ref d] ∧ Rd H d (.dT kvs) ∧ kvs.map (·.1) = ns.map prK ∧ ns.length ≤ 10000 ∧
    ∀ (p : Addr) (ys : List V), H p = none → Paired (PrAt H) ys (srtP ns) → Q (.ref p) (upd H p (.lst ys))) := by
  intro pins s σ H xs us Q I r h
  obtain ⟨d, kvs, ns, rfl, hd, hns, hz, q⟩ := h
  obtain ⟨u, rfl, rx⟩ := r.one
  cases rx
  obtain ⟨z, hs, ks, pr, o, es, ep, ho, hx, hdt, he, hn⟩ := (show ObjOk X.prog X.w H s.heap d (.dT kvs) from hd.ok I.hok)
  have l1 : es.size = ks.length := size_of_entries he
  have l2 : kvs.length = ks.length := Paired.length pr
  have l3 : kvs.length = ns.length := by have := congrArg List.length hns; simpa using this
  refine Calls.call_function_entry PyProof.Rows.kind_sorted PyProof.Rows.plain_sorted PyProof.Rows.entry_sorted (PyProof.Rows.args_sorted1 _) ?_
  unfold Builtin.«sorted»
  refine wpAny_bind (m := checkCount "sorted" 1 1 _) (wpAny_pure ?_)
  refine wpAny_bind (PySem.W.kdu_collect (A := X.A.in1) (kdl_raw hs hx hdt) (I.ok.hd hc) ho (by omega) fun h' tk acc hk it => ?_)
  have ea : acc.toList = ks.map fun x => Value.ref x.2.1 := by
    have hl : acc.toList.length = ks.length := by rw [Array.length_toList, it.1]; exact l1
    apply List.ext_getElem?
    intro j
    rw [List.getElem?_map]
    cases hj : acc.toList[j]? with
    | none =>
      have h1 := List.getElem?_eq_none_iff.mp hj
      rw [List.getElem?_eq_none (by omega)]
      all_goals rfl
    | some v =>
      obtain ⟨en, hen, hv⟩ := it.2 j v (by rw [← Array.getElem?_toList]; exact hj)
      have qe := entry_at he j
      rw [hen] at qe
      cases hb : ks[j]? with
      | none =>
        rw [hb] at qe
        exact nomatch (show some en = none from qe)
      | some b =>
        rw [hb] at qe
        have e2 : en = entryOfKey (tupleKind (mixKind X.prog X.w)) b := Option.some.inj qe
        rw [hv, e2]
        all_goals rfl
  have I1 : Inv X pins σ H { s with heap := h', toks := tk } := I.kept hk
  have eE : PySem.W.EachIs (fun v (q : Int × Int) => ∃ x, RelV x v ∧ PrAt H x q) acc.toList ns := by
    rw [ea]
    have go : ∀ {kvs : List (List Key × V)} {ks : List (List Key × Addr × Value)} {ns : List (Int × Int)}, KT H kvs ks → kvs.map (·.1) = ns.map prK → PySem.W.EachIs (fun v (q : Int × Int) => ∃ x, RelV x v ∧ PrAt H x q) (ks.map fun x => Value.ref x.2.1) ns := by
      intro kvs ks ns pr
      induction pr generalizing ns with
      | nil => intro e; cases ns with
        | nil => exact .nil
        | cons n ns => cases e
      | cons h t ih => intro e; cases ns with
        | nil => cases e
        | cons n ns =>
          rw [List.map_cons, List.map_cons] at e
          injection e with e1 e2
          refine .cons ⟨V.ref _, rfl, _, rfl, ?_⟩ (ih e2)
          have h2 := h.2.1
          rw [e1] at h2
          exact h2
    exact go pr hns
  have hal : acc.toList.length = ns.length := by rw [ea, List.length_map]; omega
  refine wpAny_bind (wpAny_newList ?_ (by rw [hal]; exact line10 hz))
  have hoL : (h'.push (seqObj "list" acc.toList.toArray 0)).get? h'.objs.size = some (seqObj "list" acc.toList.toArray 0) := Heap.get?_push_size _ rfl
  show wpAny _ _ _ _ _ { s with heap := h'.push (seqObj "list" acc.toList.toArray 0), toks := tk }
  have ok := srtOk_pr2 hz
  have er : PySem.W.EachIs (fun v (q : Int × Int) => ∃ as, Reads (h'.push (seqObj "list" acc.toList.toArray 0)) v (pr2 q) as ∧ h'.objs.size ∉ as) acc.toList ns :=
    eE.mono fun v q ⟨x, r, p⟩ => ⟨[], PyProof.Rows.Reads.keeps (fun _ _ => Heap.get?_push_of_some _) (prAt_reads I1 p r), List.not_mem_nil⟩
  have eL : PySem.W.dataLe false pr2 = lexB := PySem.W.dataLe_ii (fun b : Int × Int => b.1) (fun b => b.2)
  refine wpAny_bind (wpAny_holding (PySem.W.list_sort_data (s := { s with heap := h'.push (seqObj "list" acc.toList.toArray 0), toks := tk }) (enc := pr2) hoL eE er ok.al ok.so (line10 hz) (fun b hb => by
    rw [dep_pr2]
    show X.A.units + 1 + 1 + 1 < cLine
    omega) fun out hl eo => ?_))
  rw [eL] at eo
  obtain ⟨ys, g1, g2⟩ := of_eachP eo
  obtain ⟨c, hc'⟩ := PyProof.Rows.sortedHeap_at (vs := acc.toList) (out := out.toArray) hoL
  refine wpAny_pure ⟨_, rfl, .ref h'.objs.size, upd H h'.objs.size (.lst ys), I1.laid (t' := tk) (fun b u e => ?_) (Nat.le_refl _)
    (show ObjOk X.prog X.w _ _ _ (.lst ys) from ⟨by rw [g1.length, hl]; exact line10 hz, out, c, g1, hc'⟩), rfl, q _ ys (I1.hok.fresh (Nat.le_refl _)) g2⟩
  have hb : b < h'.objs.size := Heap.lt_size e
  rw [PyProof.Rows.sortedHeap_old (Nat.ne_of_lt hb) (by rw [size_push']; exact Nat.lt_succ_of_lt hb)]
  exact Heap.get?_push_of_some _ e
end
end DX

namespace DX
open PySem PySem.Spec L2 KX
open PyProof.Rows hiding St
/-! a dict whose keys are pairs of ints, as an own object: its keys' addresses and values are known (xs) -/
section
variable {X : Cx} {pins : List (Addr × Obj)} {σ : L2.St} {H : Hp} {s : Shared} {a : Addr} {xs : PXs} {A : Around} {E : Value → Shared → Prop}
theorem pd_ok {P : Program} {w : World} {h : Heap} (p : PDp a xs h) {H : Hp} : ObjOk P w H h a (PDO a xs) := by
  refine ⟨p, ?_, fun h1 h2 q k => ?_⟩
  · obtain ⟨_, _, _, _, o, _, _, ho, _⟩ := p
    exact ⟨o, ho⟩
  · obtain ⟨q0, q1, P', w', o, es, ep, ho, r⟩ := q
    exact ⟨q0, q1, P', w', o, es, ep, k o ho, r⟩
/-- all keys are tuples in the heap -/
def KeysAt (K : PySem.W.Frag) (H : Hp) (xs : PXs) : Prop := ∀ x ∈ xs, SqT K H x.2.1 (x.1.map kV)
theorem key_at (I : L2.Inv X pins σ H s) {b : Addr} {ks : List Key} (h : SqT X.K H b (ks.map kV)) : (tupleKind (mixKind X.prog X.w)).is s.heap ks b := by
  obtain ⟨its, r, ⟨o, h1, h2, n, h3⟩, _⟩ := I.tuple h
  exact ⟨o, its.toArray, n, h1, h2, h3, by simpa using items_are r⟩
theorem pd_dict (I : L2.Inv X pins σ H s) (e : H a = some (PDO a xs)) (hk : KeysAt X.K H xs) : (a == sysModules) = false ∧ s.heap.DictOfH (tupleKind (mixKind X.prog X.w)) a xs := by
  obtain ⟨⟨h0, hq, P', w', o, es, ep, h1, h2, h3, h4, h5⟩, _⟩ := (show ObjOk X.prog X.w H s.heap a (PDO a xs) from I.hok a _ e)
  exact ⟨h0, o, es, ep, h1, h2, h3, h4.trans (entries_pq _ _ _ _ hq), fun x hx => key_at I (hk x hx), h5⟩
theorem pd_keys (I : L2.Inv X pins σ H s) (e : H a = some (PDO a xs)) : ∀ x ∈ xs, ∃ q, x.1 = prK q := by
  obtain ⟨⟨_, hq, _⟩, _⟩ := (show ObjOk X.prog X.w H s.heap a (PDO a xs) from I.hok a _ e)
  exact hq
/-- {} -/
theorem pe_pdNew {pos : Pos} : PE X (.Dict [] [] pos) (fun _ H Q => ∀ p, H p = none → Q (.ref p) (upd H p (PDO p []))) := by
  exact ⟨fun pins s σ H Q I h => wpAny_Dict_empty ⟨.ref s.heap.objs.size, _, I.laid (a := s.heap.objs.size) (o := PDO s.heap.objs.size []) (t' := s.toks) (fun _ _ q => Heap.get?_push_of_some _ q) (Nat.le_refl _)
    (pd_ok (xs := []) ⟨beq_eq_false_iff_ne.mpr (Ne.symm (Nat.ne_of_lt I.big)), (fun _ h => nomatch h), X.prog, X.w, _, #[], 0, Heap.get?_push_size _ rfl, ⟨rfl, rfl, rfl⟩, rfl, rfl, List.nodup_nil⟩), rfl, h _ (I.hok.fresh (Nat.le_refl _))⟩⟩
theorem mem_put {k : List Key} {b : Addr} {r : Value} {y : List Key × Addr × Value} (h : y ∈ storedH xs k b r) : (∃ x ∈ xs, x.1 = y.1 ∧ x.2.1 = y.2.1) ∨ (y.1 = k ∧ y.2.1 = b) := by
  unfold storedH at h
  split at h
  · obtain ⟨x, hx, e⟩ := List.mem_map.mp h
    unfold putAt at e
    split at e
    · rename_i e2; subst e; exact .inl ⟨x, hx, by first | exact e2 | rfl, rfl⟩
    · subst e; exact .inl ⟨x, hx, rfl, rfl⟩
  · rcases List.mem_append.mp h with h | h
    · exact .inl ⟨y, h, rfl, rfl⟩
    · rw [List.mem_singleton] at h; subst h; exact .inr ⟨rfl, rfl⟩
/-- d[k] = v -/
theorem pd_setItem {b : Addr} {k : List Key} {r : Value} {Q : Unit → Shared → Prop} (hu : A.units + 1 < cLine) (I : L2.Inv X pins σ H s) (e : H a = some (PDO a xs)) (hk : KeysAt X.K H xs) (hb : SqT X.K H b (k.map kV)) (hqk : ∃ q, k = prK q) (hl : xs.length ≤ sizeLine)
    (h : ∀ s', L2.Inv X pins σ (upd H a (PDO a (storedH xs k b r))) s' → Q () s') :
    wpAny (model X.prog X.w) A (setItem (.ref a) (.ref b) r) Q E s := by
  obtain ⟨h0, dd⟩ := pd_dict I e hk
  refine wpAny_setItem_heap (hsz := hl) (tupleKind_room_in1 hu) (key_at I hb) dd fun h' dd' hs => h _ ?_
  obtain ⟨q, es, ep, hq, h2, h3, h4, _, h5⟩ := dd'
  have hk2 : ∀ x ∈ storedH xs k b r, ∃ q, x.1 = prK q := fun x hx => by
    rcases mem_put hx with ⟨y, hy, e1, _⟩ | ⟨e1, _⟩
    · rw [← e1]; exact pd_keys I e y hy
    · rw [e1]; exact hqk
  exact d_write I (by rw [e]; exact True.intro) hs ⟨q, hq⟩ (pd_ok ⟨h0, hk2, X.prog, X.w, q, es, ep, hq, h2, h3, h4, h5⟩)
/-- one of the keys -/
def PrIn (xs : PXs) (x : V) (q : Int × Int) : Prop := ∃ e ∈ xs, x = V.ref e.2.1 ∧ e.1 = prK q
theorem prIn_reads (I : L2.Inv X pins σ H s) (hk : KeysAt X.K H xs) {x : V} {q : Int × Int} (h : PrIn xs x q) {v : Value} (r : L2.RelV x v) : Reads s.heap v (pr2 q) [] := by
  obtain ⟨e, he, rfl, e1⟩ := h
  cases r
  have hs := hk e he
  rw [e1] at hs
  obtain ⟨its, rv, ⟨o, ho, hc, n, hd⟩, _⟩ := I.tuple hs
  obtain ⟨u1, u2, rfl, ⟨t1, rfl⟩, ⟨t2, rfl⟩⟩ := rv.two
  exact .tuple ho hc hd (ReadsAll.cons (as := []) (bs := []) (.int _ _) (ReadsAll.cons (as := []) (bs := []) (.int _ _) .nil))
/-- sorted(d) -/
theorem cr_sortedPD (hc : X.calm = true) (hu : X.A.units + 200 < cLine) : CallR X (.builtin "sorted") (fun vs H Q => ∃ (d : Addr) (ks : PXs) (ns : List (Int × Int)), vs = [V.ref d] ∧ H d = some (PDO d ks) ∧ KeysAt X.K H ks ∧ ks.map (·.1) = ns.map prK ∧ ns.length ≤ 10000 ∧
    ∀ (p : Addr) (ys : List V), H p = none → Paired (PrIn ks) ys (srtP ns) → Q (.ref p) (upd H p (.lst ys))) := by
  intro pins s σ H vs us Q I r h
  obtain ⟨d, ks, ns, rfl, hd, hk0, hns, hz, q⟩ := h
  obtain ⟨u, rfl, rx⟩ := r.one
  cases rx
  obtain ⟨⟨hs, _, P', w', o, es, ep, ho, hx, hdt, he, hn⟩, _⟩ := (show ObjOk X.prog X.w H s.heap d (PDO d ks) from I.hok d _ hd)
  have l1 : es.size = ks.length := size_of_entries he
  have l2 : ks.length = ns.length := by have := congrArg List.length hns; simpa using this
  refine Calls.call_function_entry PyProof.Rows.kind_sorted PyProof.Rows.plain_sorted PyProof.Rows.entry_sorted (PyProof.Rows.args_sorted1 _) ?_
  unfold Builtin.«sorted»
  refine wpAny_bind (m := checkCount "sorted" 1 1 _) (wpAny_pure ?_)
  refine wpAny_bind (PySem.W.kdu_collect (A := X.A.in1) (kdl_raw hs hx hdt) (I.ok.hd hc) ho (by rw [l1, l2]; exact line10 hz) fun h' tk acc hk it => ?_)
  have ea : acc.toList = ks.map fun x => Value.ref x.2.1 := by
    have hl : acc.toList.length = ks.length := by rw [Array.length_toList, it.1]; exact l1
    apply List.ext_getElem?
    intro j
    rw [List.getElem?_map]
    cases hj : acc.toList[j]? with
    | none =>
      have h1 := List.getElem?_eq_none_iff.mp hj
      rw [List.getElem?_eq_none (by omega)]
      all_goals rfl
    | some v =>
      obtain ⟨en, hen, hv⟩ := it.2 j v (by rw [← Array.getElem?_toList]; exact hj)
      have qe := entry_at he j
      rw [hen] at qe
      cases hb : ks[j]? with
      | none =>
        rw [hb] at qe
        exact nomatch (show some en = none from qe)
      | some b =>
        rw [hb] at qe
        have e2 : en = entryOfKey (tupleKind (mixKind P' w')) b := Option.some.inj qe
        rw [hv, e2]
        all_goals rfl
  have I1 : L2.Inv X pins σ H { s with heap := h', toks := tk } := I.kept hk
  have eE : PySem.W.EachIs (fun v (q : Int × Int) => ∃ x, L2.RelV x v ∧ PrIn ks x q) acc.toList ns := by
    rw [ea]
    have go : ∀ {l : PXs} {ns : List (Int × Int)}, (∀ x ∈ l, x ∈ ks) → l.map (·.1) = ns.map prK → PySem.W.EachIs (fun v (q : Int × Int) => ∃ x, L2.RelV x v ∧ PrIn ks x q) (l.map fun x => Value.ref x.2.1) ns := by
      intro l
      induction l with
      | nil => intro ns _ e; cases ns with
        | nil => exact .nil
        | cons n ns => cases e
      | cons y l ih => intro ns hm e; cases ns with
        | nil => cases e
        | cons n ns =>
          rw [List.map_cons, List.map_cons] at e
          injection e with e1 e2
          exact .cons ⟨V.ref _, rfl, y, hm y List.mem_cons_self, rfl, e1⟩ (ih (fun x hx => hm x (List.mem_cons_of_mem _ hx)) e2)
    exact go (fun _ h => h) hns
  have hal : acc.toList.length = ns.length := by rw [ea, List.length_map]; omega
  refine wpAny_bind (wpAny_newList ?_ (by rw [hal]; exact line10 hz))
  have hoL : (h'.push (seqObj "list" acc.toList.toArray 0)).get? h'.objs.size = some (seqObj "list" acc.toList.toArray 0) := Heap.get?_push_size _ rfl
  show wpAny _ _ _ _ _ { s with heap := h'.push (seqObj "list" acc.toList.toArray 0), toks := tk }
  have ok := srtOk_pr2 hz
  have er : PySem.W.EachIs (fun v (q : Int × Int) => ∃ as, Reads (h'.push (seqObj "list" acc.toList.toArray 0)) v (pr2 q) as ∧ h'.objs.size ∉ as) acc.toList ns :=
    eE.mono fun v q ⟨x, r, p⟩ => ⟨[], PyProof.Rows.Reads.keeps (fun _ _ => Heap.get?_push_of_some _) (prIn_reads I1 hk0 p r), List.not_mem_nil⟩
  have eL : PySem.W.dataLe false pr2 = lexB := PySem.W.dataLe_ii (fun b : Int × Int => b.1) (fun b => b.2)
  refine wpAny_bind (wpAny_holding (PySem.W.list_sort_data (s := { s with heap := h'.push (seqObj "list" acc.toList.toArray 0), toks := tk }) (enc := pr2) hoL eE er ok.al ok.so (line10 hz) (fun b hb => by
    rw [dep_pr2]
    show X.A.units + 1 + 1 + 1 < cLine
    omega) fun out hl eo => ?_))
  rw [eL] at eo
  obtain ⟨ys, g1, g2⟩ := of_eachP eo
  obtain ⟨c, hc'⟩ := PyProof.Rows.sortedHeap_at (vs := acc.toList) (out := out.toArray) hoL
  refine wpAny_pure ⟨_, rfl, .ref h'.objs.size, upd H h'.objs.size (.lst ys), I1.laid (t' := tk) (fun b u e => ?_) (Nat.le_refl _)
    (show ObjOk X.prog X.w _ _ _ (.lst ys) from ⟨by rw [g1.length, hl]; exact line10 hz, out, c, g1, hc'⟩), rfl, q _ ys (I1.hok.fresh (Nat.le_refl _)) g2⟩
  have hb : b < h'.objs.size := Heap.lt_size e
  rw [PyProof.Rows.sortedHeap_old (Nat.ne_of_lt hb) (by rw [size_push']; exact Nat.lt_succ_of_lt hb)]
  exact Heap.get?_push_of_some _ e
/-- d[k] = v, the statement -/
def sPDPut (X : Cx) (td ty tv : TE) : TS := fun D σ H => tv σ H fun v H1 => td σ H1 fun x H2 => ty σ H2 fun y H3 => ∃ (a b : Addr) (xs : PXs) (k : List Key), x = .ref a ∧ y = .ref b ∧ H3 a = some (PDO a xs) ∧ KeysAt X.K H3 xs ∧ SqT X.K H3 b (k.map kV) ∧ (∃ q, k = prK q) ∧ xs.length ≤ sizeLine ∧
  ∀ r : Value, L2.RelV v r → D.nx σ (upd H3 a (PDO a (storedH xs k b r)))
theorem ps_pdput {o i value : Expr} {td ty tv : TE} {pos pos' : Pos} (hu : X.A.units + 1 < cLine) (ho : PE X o td) (hi : PE X i ty) (hv : PE X value tv) (hs : swapsWith value (some (.Subscript o i pos')) pos.line X.env = pure false) :
    PS X (.Assign [.Subscript o i pos'] value pos) (sPDPut X td ty tv) := by
  refine ⟨fun pins s σ H D I h => ?_⟩
  refine wpAny_Assign_Subscript (thn (hv.run pins s σ H _ I h) fun r s1 ⟨v, H1, I1, rv, q1⟩ => thn (ho.run pins s1 σ H1 _ I1 q1) fun u s2 ⟨x, H2, I2, rx, q2⟩ => thn (hi.run pins s2 σ H2 _ I2 q2) fun iv s3 ⟨y, H3, I3, ry, a, b, xs, k, ex, ey, hd, hk, hb, hqk, hl, q3⟩ => ?_) hs
  subst ex ey
  obtain rfl : u = Value.ref a := rx
  obtain rfl : iv = Value.ref b := ry
  exact pd_setItem hu I3 hd hk hb hqk hl fun s4 I4 => ⟨σ, _, I4, q3 r rv⟩
/-- the keys after a store -/
theorem keys_put {k : List Key} {b : Addr} {r : Value} {ns : List (Int × Int)} {q : Int × Int} (h : xs.map (·.1) = ns.map prK) (hk : k = prK q) : (storedH xs k b r).map (·.1) = (if q ∈ ns then ns else ns ++ [q]).map prK := by
  have inj : ∀ {p q : Int × Int}, prK p = prK q → p = q := fun {p q} e => by
    unfold prK at e
    injection e with e1 e2
    injection e2 with e2 _
    injection e1 with e1
    injection e2 with e2
    exact Prod.ext e1 e2
  have hm : (∃ x ∈ xs, x.1 = k) ↔ q ∈ ns := by
    constructor
    · rintro ⟨x, hx, e⟩
      have : k ∈ ns.map prK := by rw [← h]; exact List.mem_map.mpr ⟨x, hx, e⟩
      obtain ⟨p, hp, e2⟩ := List.mem_map.mp this
      rw [hk] at e2
      rw [← inj e2]; exact hp
    · intro hq
      have : prK q ∈ xs.map (·.1) := by rw [h]; exact List.mem_map.mpr ⟨q, hq, rfl⟩
      obtain ⟨x, hx, e⟩ := List.mem_map.mp this
      exact ⟨x, hx, by rw [hk]; exact e⟩
  have ha : (atKey xs k).isSome = true ↔ ∃ x ∈ xs, x.1 = k := by
    unfold atKey
    simp
  unfold storedH
  by_cases c : (atKey xs k).isSome = true
  · rw [if_pos c, if_pos (hm.mp (ha.mp c)), ← h, List.map_map]
    refine List.map_congr_left fun x _ => ?_
    show (putAt k r x).1 = x.1
    unfold putAt
    split
    · rename_i e; first | exact e.symm | rfl
    · rfl
  · rw [if_neg c, if_neg (fun z => c (ha.mpr (hm.mpr z))), List.map_append, List.map_append, h, hk]
    rfl
end
end DX

namespace DX
open PySem PySem.Spec L2 KX
open PyProof.Rows hiding St
theorem u1 {k : Nat} {A : Around} (r : Room k A) : A.units + 1 < cLine := by have := u200 r; omega
/-! a slot that holds a dict whose keys are pairs of ints -/
def prD (q : Int × Int) : PyData := .tuple [.int q.1, .int q.2]
def putP (ns : List (Int × Int)) (q : Int × Int) : List (Int × Int) := if q ∈ ns then ns else ns ++ [q]
def noDto : Sl → Bool
  | .dto _ => false
  | _ => true
def sDNew (i : Nat) : DS := fun D δ => D.nx (δ.set i (.dto []))
def sDPut (i : Nat) (wk : DE) : DS := fun D δ => (∃ ns, δ[i]? = some (.dto ns)) ∧ xP wk δ fun r δ1 => ∃ ns a b, r = .pub (.tuple [.int a, .int b]) ∧ δ1[i]? = some (.dto ns) ∧ (δ1.set i .emp).all noDto = true ∧ ns.length < 10000 ∧ D.nx (δ1.set i (.dto (putP ns (a, b))))
def xDS (i : Nat) : DE := fun δ Q => ∃ ns, δ[i]? = some (.dto ns) ∧ ns.length ≤ 10000 ∧ Q (.own ((srtP ns).map prD)) δ
section
variable {C : Ct} {σ : L2.St} {δ : DEnv} {H U : Hp} {i : Nat} {a : Addr} {ns ms : List (Int × Int)}
theorem En.setD (en : En C σ δ H U) {v : V} {r : Sl} (h : SlOk C H U (some v) r) (hn : ∀ ds, r ≠ .own ds) : En C (σ.set i (some v)) (δ.set i r) H U := en.set h fun _ ds z => absurd z (hn ds)
/-- the dict is changed -/
theorem En.updD (en : En C σ δ H U) (hi : δ[i]? = some (.dto ns)) (hs : σ[i]? = some (some (V.ref a))) (hall : (δ.set i .emp).all noDto = true) {xs : PXs} (hx : xs.map (·.1) = ms.map prK) (hk : ∀ x ∈ xs, BqT U x.2.1 (x.1.map kV)) : En C σ (δ.set i (.dto ms)) (upd H a (PDO a xs)) U := by
  obtain ⟨o, g1, g2⟩ := en.sl i _ hi
  rw [hs] at g1
  cases g1
  obtain ⟨a', e, h0, hu, ys, hh, _, _⟩ := g2
  cases e
  have hr : ¬ Rm C.R a := Rm.not0 en.wd h0
  have hl : i < δ.length := (List.getElem?_eq_some_iff.mp hi).1
  refine ⟨⟨fun b u e => ?_, fun b u hra e => ?_, en.wd.vold, en.wd.new, fun d c e => ?_, en.wd.rv, en.wd.r0⟩, by rw [List.length_set]; exact en.len, fun j s h => ?_, fun j k ds es b h1 h2 h3 h4 => ?_⟩
  · have q : b ≠ a := fun z => by subst z; rw [hu] at e; cases e
    rw [upd_ne q]; exact en.wd.sub b u e
  · have q : b ≠ a := fun z => by subst z; rw [h0] at e; cases e
    rw [upd_ne q]; exact en.wd.old b u hra e
  · exact C.F.frame (en.wd.rok d c e) (upd_ne fun z => hr ⟨d, c, e, .inl z.symm⟩) (fun b hb => upd_ne fun z => hr ⟨d, c, e, .inr (z ▸ hb)⟩)
  · by_cases q : i = j
    · subst q
      rw [List.getElem?_set_self hl] at h
      cases h
      exact ⟨_, hs, a, rfl, h0, hu, xs, upd_same, hx, hk⟩
    · have h9 := h
      rw [List.getElem?_set_ne q] at h
      obtain ⟨p, g1, g2⟩ := en.sl j s h
      refine ⟨p, g1, ?_⟩
      cases s with
      | own ds =>
        cases p with
        | none => exact g2
        | some v =>
          obtain ⟨b, rfl, k0, k1, us, k2, k3⟩ := g2
          have q : b ≠ a := fun z => by subst z; rw [hh] at k2; cases k2
          exact ⟨b, rfl, k0, k1, us, by rw [upd_ne q]; exact k2, k3⟩
      | emp => cases p <;> trivial
      | pub d => cases p <;> exact g2
      | var j => cases p <;> exact g2
      | sup => cases p <;> exact g2
      | supn n =>
        cases p with
        | none => exact g2
        | some v =>
          obtain ⟨d, c, z1, z2, z3⟩ := g2
          exact ⟨d, c, z1, z2, C.F.leF z3 (upd_ne fun z => hr ⟨d, c, z1, .inl z.symm⟩) (fun b hb => upd_ne fun z => hr ⟨d, c, z1, .inr (z ▸ hb)⟩)⟩
      | dto ls =>
        have h8 : (δ.set i .emp)[j]? = some (.dto ls) := by rw [List.getElem?_set_ne q]; exact h
        have := List.all_eq_true.mp hall _ (List.mem_of_getElem? h8)
        cases this
  · have nd : ∀ {l : Nat} {fs : List PyData}, (δ.set i (.dto ms))[l]? = some (.own fs) → δ[l]? = some (.own fs) := fun {l fs} h => by
      by_cases q : i = l
      · subst q
        rw [List.getElem?_set_self hl] at h
        cases h
      · rw [List.getElem?_set_ne q] at h; exact h
    exact en.sep j k ds es b (nd h1) (nd h2) h3 h4
end
section
variable {X : Cx} {F : Fam} {i : Nat} {x : Str} {pos pos' p2 p3 : Pos}
theorem ds_dnew (hN : X.N.Nodup) (hi : X.N[i]? = some x) (hx : Loc X.env.scope x) (hs : swapsWith (.Dict [] [] p2) (some (.Name x pos')) pos.line X.env = pure false := by rfl)
    (hf : X.fn x = true ∨ X.env.scope.names.lookup x = some .local := by first | exact .inl rfl | exact .inr rfl) : PS X (.Assign [.Name x pos'] (.Dict [] [] p2) pos) (lS F X.K (sDNew i)) := PS.imp (ps_set hN hi hx pe_pdNew hs hf) fun D σ H ⟨C, δ, U, DD, e1, e2, en, w, ok⟩ => by
  intro p hp
  refine ok.nx _ w _ _ U ?_
  have en1 : En C σ δ (upd H p (PDO p [])) U := en.ext (Ext.priv en.wd hp)
  exact en1.setD ⟨p, rfl, en.wd.none0 hp, en.wd.noneU hp, [], upd_same, rfl, fun _ h => nomatch h⟩ (fun _ z => nomatch z)
theorem pd_len {xs : PXs} {ns : List (Int × Int)} (h : xs.map (·.1) = ns.map prK) : xs.length = ns.length := by
  have := congrArg List.length h
  simpa using this
theorem ds_dput {ek : Expr} {wk : DE} {jj : Nat} (hu : X.A.units + 1 < cLine) (hN : X.N[i]? = some x) (hk : PE X ek (lE F X.K wk)) (hv : Vis X.env.scope x := by first | exact Or.inl rfl | exact Or.inr (Or.inl rfl) | exact Or.inr (Or.inr rfl))
    (hs : swapsWith (.Constant (.bool true) jj p2) (some (.Subscript (.Name x p3) ek pos')) pos.line X.env = pure false := by rfl) (hd : (x == ("__debug__" : Str)) = false := by decide) (hcd : (x == ("__classdict__" : Str)) = false := by decide) :
    PS X (.Assign [.Subscript (.Name x p3) ek pos'] (.Constant (.bool true) jj p2) pos) (lS F X.K (sDPut i wk)) := PS.imp (ps_pdput hu (pe_var hN hv hd hcd) (d_p hk) pe_bl hs) fun D σ H ⟨C, δ, U, DD, e1, e2, en, w, ok⟩ => by
  obtain ⟨⟨ns0, h0⟩, hw⟩ := w
  obtain ⟨o, g1, g2⟩ := en.sl i _ h0
  cases o with
  | none => exact g2.elim
  | some v =>
    obtain ⟨a, rfl, _⟩ := g2
    refine ⟨.ref a, g1, C, δ, U, _, e1, e2, en, hw, fun r δ1 hk1 y H1 U1 s1 en1 o1 => ?_⟩
    obtain ⟨ns, p, q, rfl, hi1, hall, hlen, hnx⟩ := hk1
    obtain ⟨o', k1, k2⟩ := en1.sl i _ hi1
    rw [g1] at k1
    cases k1
    obtain ⟨a', z, c0, cu, xs, hh, hxs, hks⟩ := k2
    cases z
    cases o1 with
    | tup ht ha =>
      rename_i b vs
      have hvs : vs = (prK (p, q)).map kV := by
        cases ha with
        | cons h1 h2 =>
          cases h1
          cases h2 with
          | cons h2 h3 =>
            cases h2
            cases h3
            rfl
      subst hvs
      refine ⟨a, b, xs, prK (p, q), rfl, rfl, hh, fun y hy => ((hks y hy).same en1.wd.sub).sq, (ht.same en1.wd.sub).sq, ⟨_, rfl⟩, by rw [pd_len hxs]; exact line10 (Nat.le_of_lt hlen), fun r _ => ?_⟩
      refine ok.nx _ hnx σ _ U1 (en1.updD hi1 g1 hall (keys_put hxs rfl) fun y hy => ?_)
      rcases mem_put hy with ⟨z, hz, z1, z2⟩ | ⟨z1, z2⟩
      · rw [← z1, ← z2]; exact hks z hz
      · rw [z1, z2]; exact ht
theorem prd_all {C : Ct} {U : Hp} {xs : PXs} (hk : ∀ x ∈ xs, BqT U x.2.1 (x.1.map kV)) : ∀ {ys : List V} {qs : List (Int × Int)}, Paired (PrIn xs) ys qs → DdAll C.K U ys (qs.map prD)
  | [], _, .nil => .nil
  | y :: ys, q :: qs, .cons ⟨e, he, e1, e2⟩ t => by
    subst e1
    have := hk e he
    rw [e2] at this
    exact .cons (.tup this (.cons (.int _) (.cons (.int _) .nil))) (prd_all hk t)
theorem d_ds {p4 p5 : Pos} (hc : X.calm = true) (hu : X.A.units + 200 < cLine) (hg : Gl X "sorted") (hm : X.mg "sorted" = none) (hN : X.N[i]? = some x) (hv : Vis X.env.scope x := by first | exact Or.inl rfl | exact Or.inr (Or.inl rfl) | exact Or.inr (Or.inr rfl))
    (hd : (x == ("__debug__" : Str)) = false := by decide) (hcd : (x == ("__classdict__" : Str)) = false := by decide)
    (he : starEach [.Name x p3] X.env = (false, eval (.Name x p3) X.env) :: starEach [] X.env := by rfl) (hpl : (backTo p5 (starEach ([] : List Expr) X.env)).any (·.1) = false := by rfl) :
    PE X (.Call (.Name "sorted" p4) [.Name x p3] [] p5) (lE F X.K (xDS i)) := PE.imp (pe_callB (cr_sortedPD hc hu) hg hm rfl (pa_cons (pe_var hN hv hd hcd) pa_nil he) (by decide) (by decide) he hpl) fun σ H Q ⟨C, δ, U, k, e1, e2, en, w, q⟩ => by
  obtain ⟨ns, hi, hl, hk⟩ := w
  obtain ⟨o, g1, g2⟩ := en.sl i _ hi
  cases o with
  | none => exact g2.elim
  | some v =>
    obtain ⟨a, rfl, c0, cu, xs, hh, hxs, hks⟩ := g2
    refine ⟨_, g1, a, xs, ns, rfl, hh, fun y hy => ((hks y hy).same en.wd.sub).sq, hxs, hl, fun p ys hp hp2 => ?_⟩
    have x : ExtK C H U (upd H p (.lst ys)) U := Ext.priv en.wd hp
    exact q _ δ hk _ _ U (Same.refl _) (en.ext x) (rs_new en x ⟨p, rfl, hp, en.wd.noneU hp, ys, upd_same, prd_all hks hp2⟩)
end
/-! simp lemmas -/
section
variable {δ : DEnv}
def dtoK (k : List (Int × Int) → Prop) (o : Option Sl) (_ : Tag k := ()) : Prop := match o with
  | some (.dto n) => k n
  | _ => False
@[simp ↓] theorem dtoK_dto (k : List (Int × Int) → Prop) (n : List (Int × Int)) : dtoK k (some (.dto n)) = k n := rfl
theorem dtoK_ex (k : List (Int × Int) → Prop) (o : Option Sl) : dtoK k o = ∃ n, o = some (.dto n) ∧ k n := by
  apply propext
  constructor
  · intro h
    unfold dtoK at h
    split at h
    · exact ⟨_, rfl, h⟩
    · exact h.elim
  · rintro ⟨n, rfl, h⟩; exact h
@[simp ↓] theorem sDNew_s (i : Nat) (D : DEnds) : sDNew i D δ = D.nx (δ.set i (.dto [])) := rfl
@[simp ↓] theorem xDS_s (i : Nat) (Q : Sl → DEnv → Prop) : xDS i δ Q = dtoK (fun ns => ns.length ≤ 10000 ∧ Q (.own ((srtP ns).map prD)) δ) δ[i]? := by rw [dtoK_ex]; rfl
@[simp ↓] theorem noDto_pub (d : PyData) : noDto (.pub d) = true := rfl
@[simp ↓] theorem noDto_own (d : List PyData) : noDto (.own d) = true := rfl
@[simp ↓] theorem noDto_emp : noDto .emp = true := rfl
@[simp ↓] theorem noDto_sup : noDto .sup = true := rfl
@[simp ↓] theorem noDto_supn (n : Nat) : noDto (.supn n) = true := rfl
end
end DX

namespace DX
open PySem PySem.Spec L2 KX
open PyProof.Rows hiding St
section
variable {X : Cx} {F : Fam} {pos p1 p2 : Pos}
theorem upd_upd {H : Hp} {p : Addr} {o o' : HO} : upd (upd H p o) p o' = upd H p o' := by
  funext b
  by_cases q : b = p
  · subst q; rw [upd_same, upd_same]
  · rw [upd_ne q, upd_ne q, upd_ne q]
/-- {'a': 1} -/
theorem d_dict1 {k : Str} {v : Int} {j1 j2} : PE X (.Dict [some (.Constant (.str k) j1 p1)] [.Constant (.int v) j2 p2] pos) (lE F X.K (xC (.dict [(.str k, .int v)]))) :=
  PE.imp (pe_disp (pps_cons pe_str pe_int pps_nil) rfl rfl (by simp) (by simp)) fun σ H Q ⟨C, δ, U, kk, e1, e2, en, w, q⟩ => by
    intro p hp
    refine ⟨upd_same, [(.inr k, .int v)], rfl, by simp, ?_⟩
    rw [upd_upd]
    have x : ExtK C H U (upd H p (.dK (kvA [(.inr k, v)]))) (upd U p (.dK (kvA [(.inr k, v)]))) := Ext.pub en.wd hp
    exact q (.pub (.dict (kvD [(.inr k, v)]))) δ w _ _ _ x.us (en.ext x) (show Dd _ _ _ _ from .dct upd_same)
/-! a def that calls itself: its promise to itself may be empty -/
variable {P : Program} {w : World} {K : PySem.W.Frag} {mg : Str → Option Value} {base : Heap} {N ps : List Str} {k : Nat} {x qual : Str} {st : Stmt} {f : Addr} {fd : FuncData}
def SNo : DF := fun _ _ => False
theorem okNever {c : Nat} (Fn : Fun K x qual st f fd) (S : FnScope N ps (defScope st)) (hN : ps.length ≤ N.length) : FnOkG P w K mg base CX0 (k + 1) f fd ps (spDS F K c SNo) :=
  okDS (c := c) (wd := fun _ => sNever) Fn S (fun _ _ h => h.elim) hN (fun _ _ _ _ _ _ _ _ _ => dss_never) (fun _ _ _ _ h => h.elim)
end
/-! tuple >= tuple -/
section
variable {X : Cx} {F : Fam}
theorem op_geD (hu : X.A.units + 64 < cLine) : OpR X (compareOp .GtE) (fun x y H Q => ∃ ds es, Dq X.K H x (.tuple ds) ∧ Dq X.K H y (.tuple es) ∧ PySem.W.alike (.tuple ds) (.tuple es) = true ∧ (PyData.tuple ds).depth ≤ 20 ∧ Q (.bl (!PySem.W.dataLt (.tuple ds) (.tuple es))) H) := by
  intro pins s σ H x y v u Q I rx ry h
  obtain ⟨ds, es, hx, hy, ha, hd, q⟩ := h
  obtain ⟨as, ra⟩ := hx.reads I _ _ _ rx
  obtain ⟨bs, rb⟩ := hy.reads I _ _ _ ry
  exact PySem.W.ge_data ra rb ha (fun z => nomatch z) (by omega) ⟨.bl _, H, I, rfl, q⟩
def oGeT : O2
  | .tuple ds, .tuple es, k => PySem.W.alike (.tuple ds) (.tuple es) = true ∧ (PyData.tuple ds).depth ≤ 20 ∧ k (.pub (.bool (!PySem.W.dataLt (.tuple ds) (.tuple es))))
  | _, _, _ => False
@[simp ↓] theorem oGeT_t (ds es : List PyData) (k : Sl → Prop) : oGeT (.tuple ds) (.tuple es) k = (PySem.W.alike (.tuple ds) (.tuple es) = true ∧ (PyData.tuple ds).depth ≤ 20 ∧ k (.pub (.bool (!PySem.W.dataLt (.tuple ds) (.tuple es))))) := rfl
theorem s_geT (hu : X.A.units + 64 < cLine) : OpS F X (compareOp .GtE) oGeT := ⟨_, op_geD hu, fun C H U x y d e k Q e1 e2 w rx ry h q => by
  cases d with
  | tuple ds => cases e with
    | tuple es =>
      obtain ⟨ha, hd, hk⟩ := h
      obtain ⟨a1, vs, rfl, _, _, h5⟩ := rx.tup w
      obtain ⟨a2, us, rfl, _, _, h6⟩ := ry.tup w
      exact ⟨ds, es, e1 ▸ (h5.same w.sub).dq, e1 ▸ (h6.same w.sub).dq, ha, hd, fin_pub w (.bl _) hk q⟩
    | _ => exact False.elim h
  | _ => exact False.elim h⟩
end
/-! rows.index(row) -/
section
variable {X : Cx} {F : Fam} {e : Expr} {wa wb : DE} {i : Nat} {x : Str} {p apos cpos pos : Pos}
theorem dq_get {K : PySem.W.Frag} {H : Hp} : ∀ {vs : List V} {ds : List PyData} {j : Nat} {v : V}, DqAll K H vs ds → vs[j]? = some v → ∃ d, ds[j]? = some d ∧ Dq K H v d
  | _, _, _, _, .nil, e => by simp at e
  | _, _, 0, _, .cons h _, e => by simp at e; subst e; exact ⟨_, rfl, h⟩
  | _, _, j + 1, v, .cons _ t, e => by
    obtain ⟨d, h1, h2⟩ := dq_get (j := j) (v := v) t (by simpa using e)
    exact ⟨d, by simpa using h1, h2⟩
theorem plain_ints (ns : List Int) : (tupI ns).plain = true := by
  show PyData.plain (.tuple (ns.map PyData.int)) = true
  induction ns with
  | nil => rfl
  | cons n ns ih => simpa [PyData.plain, PyData.plainAll] using ih
theorem depth_ints (ns : List Int) : (tupI ns).depth ≤ 1 := by
  show PyData.depth (.tuple (ns.map PyData.int)) ≤ 1
  have : PyData.depthAll (ns.map PyData.int) = 0 := by
    induction ns with
    | nil => rfl
    | cons n ns ih => simpa [PyData.depthAll, PyData.depth] using ih
  simp [PyData.depth, this]
def rIdxR (K : PySem.W.Frag) : V → List V → Hp → VK → Prop := fun x xs H Q => ∃ (p : Addr) (y : V) (vs : List V) (rows : List (List Int)) (row : List Int), x = .ref p ∧ xs = [y] ∧ SqL K H p vs ∧ DqAll K H vs (rows.map tupI) ∧ Dq K H y (tupI row) ∧ row ∈ rows ∧ rows.length ≤ 10000 ∧ ∀ z : Nat, z < rows.length → rows[z]? = some row → (∀ j, j < z → rows[j]? ≠ some row) → Q (.int (z : Nat)) H
theorem idx_first {α : Type} [DecidableEq α] {x : α} : ∀ {xs : List α}, x ∈ xs → xs.idxOf x < xs.length ∧ xs[xs.idxOf x]? = some x ∧ ∀ j, j < xs.idxOf x → xs[j]? ≠ some x
  | [], h => nomatch h
  | y :: ys, h => by
    by_cases e : y = x
    · subst e
      simp
    · have h2 : x ∈ ys := (List.mem_cons.mp h).resolve_left fun z => e z.symm
      obtain ⟨h3, h4, h5⟩ := idx_first h2
      have hi : (y :: ys).idxOf x = ys.idxOf x + 1 := by
        rw [List.idxOf_cons]
        have : (y == x) = false := beq_eq_false_iff_ne.mpr e
        rw [this]; rfl
      rw [hi]
      refine ⟨by simpa using h3, by simpa using h4, fun j hj => ?_⟩
      cases j with
      | zero => simpa using e
      | succ j => simpa using h5 j (by omega)
theorem mt_lidx (hu : X.A.units + 64 < cLine) : MtR X "list.index" (rIdxR X.K) := by
  intro pins s σ H x xs v us Q I rx rxs h
  obtain ⟨p, y, vs, rows, row, rfl, rfl, hs, hd, hy, hm, hl, q⟩ := h
  cases rx
  obtain ⟨u, rfl, ru⟩ := rxs.one
  obtain ⟨its, rv, pl, hlen⟩ := I.list hs
  obtain ⟨bs, rb⟩ := hy.reads I _ _ _ ru
  have hvl := rv.length
  have hdl : vs.length = rows.length := by
    have : ∀ {vs : List V} {ds : List PyData}, DqAll X.K H vs ds → vs.length = ds.length := fun h => by
      induction h using DqAll.rec (motive_1 := fun _ _ _ => True) <;> simp_all
    have h2 := this hd
    simpa using h2
  refine SeqAt.call_list_index (ks := rows) (k := row) pl.isList ⟨by omega, fun j h1 h2 => ?_⟩ (line10 hl) hm ⟨.int _, H, I.tok _, ⟨_, rfl⟩, q _ (idx_first hm).1 (idx_first hm).2.1 (idx_first hm).2.2⟩
  have hv : vs[j]? = some vs[j] := List.getElem?_eq_getElem (by omega)
  obtain ⟨d, g1, g2⟩ := dq_get hd hv
  obtain ⟨u', g3, g4⟩ := rv.get hv
  rw [List.getElem?_eq_getElem h1] at g3
  cases g3
  rw [List.getElem?_map, List.getElem?_eq_getElem h2] at g1
  cases g1
  obtain ⟨as, ra⟩ := g2.reads I _ _ _ g4
  have := SeqAt.eqAt_plain _ _ X.A.in1 s _ _ as bs ra rb (plain_ints _) (plain_ints _) (by have := depth_ints rows[j]; show X.A.units + 1 + _ < _; omega)
  rw [eqv_tupI'] at this
  exact this
def lIdx (i : Nat) (w : DE) (δ : DEnv) (Q : Sl → DEnv → Prop) : Prop := (∃ es, δ[i]? = some (.own es)) ∧ xP w δ fun r δ1 => ∃ (rows : List (List Int)) (row : List Int), r = .pub (tupI row) ∧ δ1[i]? = some (.own (rows.map tupI)) ∧ row ∈ rows ∧ rows.length ≤ 10000 ∧ ∀ z : Nat, z < rows.length → rows[z]? = some row → (∀ j, j < z → rows[j]? ≠ some row) → Q (.pub (.int (z : Nat))) δ1
theorem d_lidx (hu : X.A.units + 64 < cLine) (hN : X.N[i]? = some x := by rfl) (ha : PE X e (lE F X.K wa)) (hv : Vis X.env.scope x := by first | exact Or.inl rfl | exact Or.inr (Or.inl rfl) | exact Or.inr (Or.inr rfl))
    (hd : (x == ("__debug__" : Str)) = false := by decide) (hcd : (x == ("__classdict__" : Str)) = false := by decide)
    (hbase : attributeBase (.Name x p) "index" X.env (eval (.Name x p) X.env) = eval (.Name x p) X.env := by rfl)
    (hfew : ((backTo cpos (starEach [e] X.env)).all (fun x => !x.1) && (backToKw cpos (keywordEach [] X.env)).all (fun x => x.1.isSome)
      && decide ([e].length + ([] : List Keyword).length + (if ([] : List Keyword).isEmpty then 0 else 1) < 30)) = true := by rfl)
    (hline : (apos.endLine == cpos.line) = true := by rfl) (hs : starEach [e] X.env = (false, eval e X.env) :: starEach [] X.env := by rfl) (hplain : (backTo cpos (starEach ([] : List Expr) X.env)).any (·.1) = false := by rfl) :
    PE X (.Call (.Attribute (.Name x p) "index" apos) [e] [] cpos) (lE F X.K (lIdx i wa)) := PE.imp (pe_bm PySem.F.plainAttrs_list PySem.F.slot_list_index PySem.F.type_list_index (mt_lidx hu) (pe_var hN hv hd hcd) (da_cons (d_p ha) da_nil hs) hbase hfew hline hs hplain) fun σ H Q ⟨C, δ, U, k, e1, e2, en, w, q⟩ => by
  obtain ⟨⟨es, hes⟩, w⟩ := w
  obtain ⟨a, vs, h1, h2, h3⟩ := en.own hes
  refine ⟨_, h1, .inl ⟨rfl, vs, SqL.of h2⟩, C, δ, U, fun rs δ1 => ∃ r, rs = [r] ∧ ∃ (rows : List (List Int)) (row : List Int), r = .pub (tupI row) ∧ δ1[i]? = some (.own (rows.map tupI)) ∧ row ∈ rows ∧ rows.length ≤ 10000 ∧ ∀ z : Nat, z < rows.length → rows[z]? = some row → (∀ j, j < z → rows[j]? ≠ some row) → k (.pub (.int (z : Nat))) δ1, e1, e2, en, ?_, fun rs δ1 hk us H' U' s en' ho => ?_⟩
  · show xP wa δ _
    refine cast (congrArg (xP wa δ) ?_) w
    funext r δ1
    apply propext
    constructor
    · intro h; exact ⟨r, rfl, h⟩
    · rintro ⟨r', e, h⟩; cases e; exact h
  · obtain ⟨r, rfl, rows, row, rfl, hi, hm, hl, hk⟩ := hk
    cases ho with
    | cons o1 o2 o3 =>
      cases o3
      obtain ⟨a', us', g1, g2, g3⟩ := en'.own hi
      rw [h1] at g1
      cases g1
      have o1 : Dd C.K U' _ (tupI row) := o1
      exact ⟨a, _, us', rows, row, rfl, rfl, SqL.of g2, e1 ▸ (g3.same en'.wd.sub).dq, e1 ▸ (Dd.same en'.wd.sub o1).dq, hm, hl, fun z z1 z2 z3 => q _ _ (hk z z1 z2 z3) _ _ U' s en' (show Dd _ _ _ _ from .int _)⟩
end
end DX

namespace DX
open PySem PySem.Spec L2 KX
open PyProof.Rows hiding St
/-! isinstance with two built-in classes; a pure def that calls itself -/
def isListD : PyData → Bool
  | .list _ => true | _ => false
theorem kb_list_NoneType : kitB "NoneType" "list" = some false := by decide +kernel
theorem kb_list_bool : kitB "bool" "list" = some false := by decide +kernel
theorem kb_list_int : kitB "int" "list" = some false := by decide +kernel
theorem kb_list_str : kitB "str" "list" = some false := by decide +kernel
theorem kb_list_list : kitB "list" "list" = some true := by decide +kernel
theorem kb_list_tuple : kitB "tuple" "list" = some false := by decide +kernel
theorem kb_list_dict : kitB "dict" "list" = some false := by decide +kernel
theorem kit_list {K : PySem.W.Frag} : ∀ dd : PyData, PySem.W.kitOne K (.type (tyN dd)) (.type "list") = some (isListD dd)
  | .none => kit_ty kb_list_NoneType | .bool _ => kit_ty kb_list_bool | .int _ => kit_ty kb_list_int | .str _ => kit_ty kb_list_str | .list _ => kit_ty kb_list_list | .tuple _ => kit_ty kb_list_tuple | .dict _ => kit_ty kb_list_dict
def isSeqD (d : PyData) : Bool := isListD d || isTupD d
theorem kit_seq {K : PySem.W.Frag} (d : PyData) : PySem.W.kitAny K (.type (tyN d)) [.type "list", .type "tuple"] = some (isSeqD d) := by
  unfold isSeqD
  refine kitAny_cons (kit_list d) (fun h => ?_) (fun h => by rw [h]; rfl)
  refine kitAny_cons (kit_tup d) (fun h2 => ?_) (fun h2 => by rw [h, h2]; rfl)
  rw [h, h2]
  rfl
section
variable {X : Cx} {F : Fam} {e : Expr} {wa : DE} {p pos : Pos}
theorem d_isi2 {T1 T2 : String} {y1 y2 : Str} {x1 : Nat} {p1 p2 p3 : Pos} {f : PyData → Bool} (hf : ∀ (K : PySem.W.Frag) (d : PyData), PySem.W.kitAny K (.type (tyN d)) [.type T1, .type T2] = some (f d)) (hm : X.mg "isinstance" = none) (hy1 : X.mg y1 = none) (hy2 : X.mg y2 = none)
    (hv1 : bootBuiltins y1 = some (.type T1)) (hv2 : bootBuiltins y2 = some (.type T2)) (ha : PE X e (lE F X.K wa)) (hg : Gl X "isinstance" := by rfl) (hg1 : Gl X y1 := by rfl) (hg2 : Gl X y2 := by rfl)
    (hn1 : y1 ≠ "__name__" := by decide) (hn2 : y2 ≠ "__name__" := by decide) (hd1 : (y1 == ("__debug__" : Str)) = false := by decide) (hd2 : (y2 == ("__debug__" : Str)) = false := by decide)
    (hs : starEach [.Name y1 p1, .Name y2 p2] X.env = (false, eval (.Name y1 p1) X.env) :: starEach [.Name y2 p2] X.env := by rfl) (hs2 : starEach [.Name y2 p2] X.env = (false, eval (.Name y2 p2) X.env) :: starEach [] X.env := by rfl)
    (he : starEach [e, .Tuple [.Name y1 p1, .Name y2 p2] x1 p3] X.env = (false, eval e X.env) :: starEach [.Tuple [.Name y1 p1, .Name y2 p2] x1 p3] X.env := by rfl) (he2 : starEach [.Tuple [.Name y1 p1, .Name y2 p2] x1 p3] X.env = (false, eval (.Tuple [.Name y1 p1, .Name y2 p2] x1 p3) X.env) :: starEach [] X.env := by rfl)
    (hpl : (backTo pos (starEach [.Tuple [.Name y1 p1, .Name y2 p2] x1 p3] X.env)).any (·.1) = false := by rfl) :
    PE X (.Call (.Name "isinstance" p) [e, .Tuple [.Name y1 p1, .Name y2 p2] x1 p3] [] pos) (lE F X.K (DX.x1 (fIsi f) wa)) := by
  refine PE.imp (pe_callB call_isiT hg hm (by decide +kernel) (pa_cons ha (pa_cons (pe_tup (pa_cons (pe_bltn (v := .ty T1) hg1 hy1 hv1 rfl hn1 hd1) (pa_cons (pe_bltn (v := .ty T2) hg2 hy2 hv2 rfl hn2 hd2) pa_nil hs2) hs)) pa_nil he2) he) (by decide) (by decide) he hpl) fun σ H Q ⟨C, δ, U, k, e1, e2, en, w, q⟩ => ?_
  refine ⟨C, δ, U, _, e1, e2, en, w, fun r δ1 hk v H1 U1 s1 en1 o1 => ?_⟩
  obtain ⟨U2, s2, en2, ho2⟩ := hold_of en1 o1
  obtain ⟨x, hx, hf2⟩ := hk
  refine ⟨show 2 ≤ sizeLine by decide, fun tp htp => ?_⟩
  have x3 : ExtK C H1 U2 (upd H1 tp (.tup [.ty T1, .ty T2])) U2 := Ext.priv en2.wd htp
  have en3 := en2.ext x3
  have rb := rdb_of en3 ho2 hx
  exact ⟨v, tp, _, _, _, _, rfl, upd_same, .cons (.ty T1) (.cons (.ty T2) .nil), e1 ▸ ((rb.ddH en3.wd).dq).ty, hf _ x, q _ δ1 hf2 _ _ U2 (s1.trans s2) en3 (show Dd _ _ _ _ from .bl _)⟩
variable {P : Program} {w : World} {K : PySem.W.Frag} {mg : Str → Option Value} {base : Heap} {N ps : List Str} {k : Nat} {x qual : Str} {st : Stmt} {f : Addr} {fd : FuncData}
theorem okNeverD (Fn : Fun K x qual st f fd) (S : FnScope N ps (defScope st)) (hN : ps.length ≤ N.length) : FnOkG P w K mg base CX0 (k + 1) f fd ps (spD F K SNo) :=
  okD (wd := sNever) Fn S (fun _ _ h => h.elim) hN (fun _ _ _ _ _ _ _ _ => dss_never) (fun _ _ h => h.elim)
end
end DX

namespace DX
open PySem PySem.Spec L2 KX
open PyProof.Rows hiding St
/-! == that also asks small dicts -/
def oEqA : O2
  | .dict ks, .dict ls, k => ks = ls ∧ (ks = [] ∨ ∃ s i, ks = [(.str s, .int i)]) ∧ k (.pub (.bool true))
  | a, b, k => oEq a b k
theorem oEqA_of {d e : PyData} {k : Sl → Prop} (hd : ∀ ks, d ≠ .dict ks) (h : oEq d e k) : oEqA d e k := by
  cases d with
  | dict ks => exact absurd rfl (hd ks)
  | _ => exact h
theorem oEqA_cases {d e : PyData} {k : Sl → Prop} (h : oEqA d e k) : (∃ ks, d = .dict ks ∧ e = .dict ks ∧ (ks = [] ∨ ∃ s i, ks = [(.str s, .int i)]) ∧ k (.pub (.bool true))) ∨ oEq d e k := by
  unfold oEqA at h
  split at h
  · obtain ⟨rfl, h1, h2⟩ := h
    exact .inl ⟨_, rfl, rfl, h1, h2⟩
  · exact .inr h
theorem kv_one {kvs : List (Key × Int)} {ks : List (PyData × PyData)} (e : kvD kvs = ks) (h : ks = [] ∨ ∃ s i, ks = [(.str s, .int i)]) : kvs = [] ∧ ks = [] ∨ ∃ s i, kvs = [(.inr s, i)] ∧ ks = [(.str s, .int i)] := by
  rcases h with rfl | ⟨s, i, rfl⟩
  · left
    refine ⟨?_, rfl⟩
    unfold kvD at e
    exact List.map_eq_nil_iff.mp e
  · right
    match kvs, e with
    | [(.inr a, b)], e =>
      unfold kvD at e
      simp [keyP] at e
      obtain ⟨rfl, rfl⟩ := e
      exact ⟨_, _, rfl, rfl⟩
    | [(.inl a, b)], e =>
      unfold kvD at e
      simp [keyP] at e
theorem Dd.dctAt {K : PySem.W.Frag} {H : Hp} {v : V} {ks : List (PyData × PyData)} (h : Dd K H v (.dict ks)) : ∃ a kvs, v = .ref a ∧ H a = some (.dK (kvA kvs)) ∧ kvD kvs = ks := by
  cases h with
  | dct e => exact ⟨_, _, rfl, e, rfl⟩
section
variable {X : Cx} {F : Fam}
theorem s_eqA (hu : X.A.units + 64 < cLine) : OpS F X (compareOp .Eq) oEqA := ⟨_, (op_eq_dict (by omega)).or (op_eq.or (op_eqD hu)), fun C H U x y d e k Q e1 e2 w rx ry h q => by
  rcases oEqA_cases h with ⟨ks, rfl, rfl, hk, h⟩ | h
  · obtain ⟨a, k1, rfl, h1, e3⟩ := (rx.ddH w).dctAt
    obtain ⟨b, k2, rfl, h2, e4⟩ := (ry.ddH w).dctAt
    refine .inl ⟨a, b, kvA k1, rfl, rfl, h1, ?_, ?_, ?_, fin_pub w (.bl _) h q⟩
    · rcases kv_one e3 hk with ⟨rfl, rfl⟩ | ⟨s, i, rfl, rfl⟩
      · rcases kv_one e4 hk with ⟨rfl, _⟩ | ⟨s, i, _, z⟩
        · exact h2
        · cases z
      · rcases kv_one e4 hk with ⟨_, z⟩ | ⟨s2, i2, rfl, z⟩
        · cases z
        · cases z; exact h2
    · rcases kv_one e3 hk with ⟨rfl, _⟩ | ⟨s, i, rfl, _⟩
      · exact List.Pairwise.nil
      · exact List.pairwise_singleton _ _
    · rcases kv_one e3 hk with ⟨rfl, _⟩ | ⟨s, i, rfl, _⟩
      · intro p hp; cases hp
      · intro p hp
        rw [show kvA [(.inr s, i)] = [(.inr s, .int i)] from rfl, List.mem_singleton] at hp
        subst hp; rfl
  · rcases oEq_cases h with ⟨a, b, rfl, rfl, h⟩ | h
    · rw [rx.str, ry.str]
      exact .inr (.inl ⟨rfl, fin_pub w (by rw [dec_str]; exact .bl _) h q⟩)
    · exact .inr (.inr ⟨d, e, e1 ▸ (rx.ddH w).dp h.1.1, e1 ▸ (ry.ddH w).dp h.2.1.1, h.1.2, h.2.1.2, fin_pub w (.bl _) h.2.2 q⟩)⟩
end
end DX

namespace LW
open PySem PySem.Spec L2 KX DX MX
open PyProof.Rows hiding St
/-! exchange paths (k17, k18, k19) -/
/-- the places of a row that may be exchanged towards another -/
def goods (one other : List Int) : List Nat := (List.range (other.length - 1)).filter (good one other)
/-- the lowest place, again and again -/
def pathG (one : List Int) : Nat → List Int → List (List Int)
  | 0, other => [other]
  | k + 1, other => match (goods one other).head? with
    | none => [other]
    | some p => other :: pathG one k (swapAt other p)
def withinB (one other : List Int) : Bool := (invP one).all fun p => decide (p ∈ invP other)
structure PG (one other : List Int) : Prop where
  nd : one.Nodup
  pm : one.Perm other
  wi : MX.Within one other
theorem within_B {one other : List Int} : withinB one other = true ↔ MX.Within one other := by
  unfold withinB MX.Within
  rw [List.all_eq_true]
  simp only [decide_eq_true_eq]
theorem goods_mem {one other : List Int} {p : Nat} : p ∈ goods one other ↔ p + 1 < other.length ∧ good one other p = true := by
  unfold goods
  rw [List.mem_filter, List.mem_range]
  constructor
  · rintro ⟨h1, h2⟩; exact ⟨by omega, h2⟩
  · rintro ⟨h1, h2⟩; exact ⟨by omega, h2⟩
theorem good_desc {one other : List Int} {p : Nat} (h : good one other p = true) : other.getD (p + 1) 0 < other.getD p 0 := by
  unfold good at h
  rw [Bool.and_eq_true, decide_eq_true_eq] at h
  exact h.1
theorem swp_at {row : List Int} {p : Nat} (h : p + 1 < row.length) (hd : row.getD (p + 1) 0 < row.getD p 0) : swp p row = swapAt row p := by
  rw [swp_eq h hd]
  unfold swapAt
  simp
theorem PG.step {one other : List Int} (h : PG one other) {p : Nat} (hp : p ∈ goods one other) : PG one (swapAt other p) ∧ (invP (swapAt other p)).length + 1 = (invP other).length := by
  obtain ⟨h1, h2⟩ := goods_mem.mp hp
  have hd := good_desc h2
  rw [← swp_at h1 hd]
  refine ⟨⟨h.nd, h.pm.trans (swp_perm h1).symm, within_step h.nd h.pm h.wi h1 h2⟩, ?_⟩
  rw [(swp_inv h1 hd).length_eq]
  rfl
theorem PG.next {one other : List Int} (h : PG one other) (hne : one ≠ other) : ∃ p, (goods one other).head? = some p ∧ p ∈ goods one other := by
  obtain ⟨p, h1, h2⟩ := within_next h.nd h.pm h.wi hne
  have hp := goods_mem.mpr ⟨h1, h2⟩
  cases hg : goods one other with
  | nil => rw [hg] at hp; cases hp
  | cons x xs => exact ⟨x, rfl, by simp⟩
theorem idx_at {row : List Int} (hn : row.Nodup) {p : Nat} (h : p < row.length) : row.idxOf (row.getD p 0) = p := by
  rw [List.getD_eq_getElem?_getD, List.getElem?_eq_getElem h, Option.getD_some]
  exact hn.idxOf_getElem p h
theorem goods_self {one : List Int} (hn : one.Nodup) : goods one one = [] := by
  cases hg : goods one one with
  | nil => rfl
  | cons p xs =>
    obtain ⟨h1, h2⟩ := goods_mem.mp (show p ∈ goods one one by rw [hg]; simp)
    unfold good at h2
    rw [Bool.and_eq_true, decide_eq_true_eq, decide_eq_true_eq, idx_at hn h1, idx_at hn (show p < one.length by omega)] at h2
    omega
theorem PG.same {one other : List Int} (h : PG one other) : (goods one other).head? = none ↔ one = other := by
  constructor
  · intro e
    by_cases hne : one = other
    · exact hne
    · obtain ⟨p, h1, _⟩ := h.next hne
      rw [e] at h1; cases h1
  · rintro rfl
    rw [goods_self h.nd]; rfl
theorem pathG_end {one other : List Int} (h : (goods one other).head? = none) : ∀ k, pathG one k other = [other]
  | 0 => rfl
  | k + 1 => by unfold pathG; rw [h]
theorem pathG_go {one other : List Int} (h : PG one other) {p : Nat} (hp : (goods one other).head? = some p) {k : Nat} (hk : (invP other).length ≤ k) : ∃ j, k = j + 1 ∧ p ∈ goods one other ∧ PG one (swapAt other p) ∧ (invP (swapAt other p)).length ≤ j ∧ pathG one k other = other :: pathG one j (swapAt other p) := by
  have hm : p ∈ goods one other := List.mem_of_head? hp
  obtain ⟨g, e⟩ := h.step hm
  cases k with
  | zero => omega
  | succ j => exact ⟨j, rfl, hm, g, by omega, by rw [pathG, hp]⟩
theorem pathG_len (one : List Int) : ∀ (k : Nat) (other : List Int), (pathG one k other).length ≤ k + 1
  | 0, _ => by simp [pathG]
  | k + 1, other => by
    unfold pathG
    split
    · simp
    · have := pathG_len one k
      simp only [List.length_cons]
      have := this (swapAt other ‹_›)
      omega
theorem pathG_perm {one : List Int} : ∀ (k : Nat) (other : List Int), PG one other → ∀ r ∈ pathG one k other, r.Perm one
  | 0, other, h, r, hr => by
    rw [pathG, List.mem_singleton] at hr
    subst hr; exact h.pm.symm
  | k + 1, other, h, r, hr => by
    unfold pathG at hr
    split at hr
    · rw [List.mem_singleton] at hr
      subst hr; exact h.pm.symm
    · rename_i p hp
      rcases List.mem_cons.mp hr with e | hr
      · subst e; exact h.pm.symm
      · exact pathG_perm k _ (h.step (List.mem_of_head? hp)).1 r hr
/-- the path from other to one -/
def pathO (one other : List Int) : List (List Int) := pathG one (invP other).length other
/-- from a row on, exchange by exchange -/
def chain : List Int → List PyData → List Int → Prop
  | r, [], one => r = one
  | r, e :: es, one => ∃ p, p + 1 < r.length ∧ r.getD (p + 1) 0 < r.getD p 0 ∧ e = tupI (swapAt r p) ∧ chain (swapAt r p) es one
def S_law_lessened : DF := fun as k => ∃ (row : List Int) (t : Nat), as = [.sup, .pub (tupI row), .pub (.int (t : Int))] ∧ row.length ≤ 30 ∧ row ≠ [] ∧ t ≤ 300 ∧ ∀ (rs : List (List Int)) (one : List Int), rs.length ≤ t → chain row (rs.map tupI) one → k (.pub (tupI one))
def Sis_within : DF := fun as k => ∃ one other : List Int, as = [.pub (tupI one), .pub (tupI other)] ∧ one.length ≤ 30 ∧ other.length ≤ 30 ∧ k (.pub (.bool (withinB one other)))
def Snext_exchange : DF := fun as k => ∃ one other : List Int, as = [.pub (tupI other), .pub (tupI one)] ∧ one.Perm other ∧ one ≠ [] ∧ one.length ≤ 30 ∧ k (.pub (match (goods one other).head? with | none => .none | some p => .int (p : Int)))
def Sexchange_path : DF := fun as k => ∃ one other : List Int, as = [.pub (tupI one), .pub (tupI other)] ∧ one.Nodup ∧ one.Perm other ∧ one ≠ [] ∧ one.length ≤ 30 ∧ k (.pub (if withinB one other = true then .tuple ((pathO one other).map tupI) else .none))
abbrev w_law_lessened : DS := (sSeq (sFor (iR1 (aC (xV 2) aN)) (gN 3)
  (sSeq (sAsg (xPs [1] (xLc [5] (iR1 (aC (x2 oSub (x1 fLen (xV 1)) (xC (.int 1))) aN)) (gN 5) (tV (x2 oGt (x2 oIx (xV 1) (xV 5)) (x2 oIx (xV 1) (x2 oAdd (xV 5) (xC (.int 1)))))) (xV 5))) (gN 4))
  (sIf (tV (x2 oNe (xV 4) (xLst aN)))
  (sSeq (sAsg (x2 oIx (xV 4) (xCall S_law_deal (aC (xP (xV 0)) (aC (xP (x1 fLen (xV 4))) aN)))) (gN 5))
  (sAsg (x2 oAdd (x2 oAdd (xSl (xV 1) pN (pS (xV 5))) (xTup (aC (xP (x2 oIx (xV 1) (x2 oAdd (xV 5) (xC (.int 1))))) (aC (xP (x2 oIx (xV 1) (xV 5))) aN)))) (xSl (xV 1) (pS (x2 oAdd (xV 5) (xC (.int 2)))) pN)) (gN 1)))
  sNx)))
  (sRet (xV 1)))
abbrev wis_within : DS := (sSeq (sAsg (xCall Sinversions (aC (xP (xV 1)) aN)) (gN 2))
  (sRet (x1 fAll (xPs [2] (xLc [3] (iX (xCall Sinversions (aC (xP (xV 0)) aN))) (gN 3) tYes' (x2 oInD (xV 3) (xV 2)))))))
abbrev wnext_exchange : DS := (sSeq (sFor (iR1 (aC (x2 oSub (x1 fLen (xV 0)) (xC (.int 1))) aN)) (gN 2)
  (sSeq (sAsg (x2 oIx (xV 0) (xV 2)) (gN 3))
  (sSeq (sAsg (x2 oIx (xV 0) (x2 oAdd (xV 2) (xC (.int 1)))) (gN 4))
  (sIf (tAnd' (tV (x2 oGt (xV 3) (xV 4))) (tV (x2 oLt (xIdxT (xV 1) (xV 4)) (xIdxT (xV 1) (xV 3)))))
  (sRet (xV 2))
  sNx))))
  (sRet (xC .none)))
abbrev wexchange_path : DS := (sSeq (sIf (tNot' (tV (xCall Sis_within (aC (xP (xV 0)) (aC (xP (xV 1)) aN)))))
  (sRet (xC .none))
  sNx)
  (sSeq (sAsg (xLst (aC (xP (xV 1)) aN)) (gN 2))
  (sSeq (sAsg (xCall Snext_exchange (aC (xP (xV 1)) (aC (xP (xV 0)) aN))) (gN 3))
  (sSeq (sWhile (tV (x2 oIsNot (xV 3) (xC .none)))
  (sSeq (sExp (lAppend 2 (xCall Safter_exchange (aC (xP (x2 oIx (xV 2) (x1 oNeg (xC (.int 1))))) (aC (xP (xV 3)) aN)))))
  (sAsg (xCall Snext_exchange (aC (xP (x2 oIx (xV 2) (x1 oNeg (xC (.int 1))))) (aC (xP (xV 0)) aN))) (gN 3))))
  (sRet (x1 fTuple (xV 2)))))))
theorem len__law_lessened : ∀ as k, S_law_lessened as k → as.length = 3 := by rintro _ k ⟨d, t, rfl, _⟩; rfl
theorem len_is_within : ∀ as k, Sis_within as k → as.length = 2 := by rintro _ k ⟨d, t, rfl, _⟩; rfl
theorem len_next_exchange : ∀ as k, Snext_exchange as k → as.length = 2 := by rintro _ k ⟨d, t, rfl, _⟩; rfl
theorem len_exchange_path : ∀ as k, Sexchange_path as k → as.length = 2 := by rintro _ k ⟨d, t, rfl, _⟩; rfl
theorem rng0 (n : Nat) : rngD 0 n = (List.range n).map fun p : Nat => PyData.int (p : Int) := by
  rw [rng_eq]; apply List.map_congr_left; intro i _; simp
/-- the two keys at a place -/
theorem at_p {row : List Int} {p : Nat} (h : p < row.length) : atI row (p : Int) = some (row.getD p 0) := by
  rw [atI_of h, List.getD_eq_getElem?_getD, List.getElem?_eq_getElem h]; rfl
theorem at_p1 {row : List Int} {p : Nat} (h : p + 1 < row.length) : atI row ((p : Int) + 1) = some (row.getD (p + 1) 0) := by
  have := at_p h
  rwa [show (((p + 1 : Nat)) : Int) = (p : Int) + 1 by omega] at this
theorem cut_p2 (ns : List Int) (p : Nat) : cutD (ns.map PyData.int) (some ((p : Int) + 2)) none = (ns.drop (p + 2)).map .int := by
  have := cutD_from ns (p + 2)
  rwa [show (((p + 2 : Nat)) : Int) = (p : Int) + 2 by omega] at this
theorem swap_at (row : List Int) (p : Nat) : (row.take p).map PyData.int ++ [.int (row.getD (p + 1) 0), .int (row.getD p 0)] ++ (row.drop (p + 2)).map .int = (swapAt row p).map .int := by
  unfold swapAt; simp
theorem swap_nf (row : List Int) (p : Nat) : List.take p (row.map PyData.int) ++ PyData.int (row[p + 1]?.getD 0) :: PyData.int (row[p]?.getD 0) :: List.drop (p + 2) (row.map PyData.int) = (swapAt row p).map .int := by
  unfold swapAt; simp
theorem swapAt_permW {row : List Int} {p : Nat} (h : p + 1 < row.length) (hd : row.getD (p + 1) 0 < row.getD p 0) : (swapAt row p).Perm row := by
  rw [← swp_at h hd]; exact swp_perm h
theorem eqv_emp (ds : List PyData) : PyData.eqv (.list ds) (.list []) = ds.isEmpty := by
  cases ds <;> simp [PyData.eqv, PyData.eqvAll]
theorem eqOk_nats (gs : List Nat) : eqOk (.list (gs.map fun p : Nat => PyData.int (p : Int))) := (Lay.lstM (enc := fun p : Nat => PyData.int (p : Int)) fun p _ => .int _).eqOk (by decide)
theorem chain_add : ∀ (es : List PyData) (r one : List Int) (p : Nat), chain r es one → p + 1 < one.length → one.getD (p + 1) 0 < one.getD p 0 → chain r (es ++ [tupI (swapAt one p)]) (swapAt one p)
  | [], r, one, p, h, h1, h2 => by
    have h : r = one := h
    subst h
    exact ⟨p, h1, h2, rfl, rfl⟩
  | e :: es, r, one, p, h, h1, h2 => by
    obtain ⟨q, a1, a2, a3, a4⟩ := h
    exact ⟨q, a1, a2, a3, chain_add es _ one p a4 h1 h2⟩
theorem chain_perm : ∀ (es : List PyData) (r one : List Int), chain r es one → one.Perm r ∧ MX.Within one r
  | [], r, one, h => by
    have h : r = one := h
    subst h
    exact ⟨List.Perm.refl _, fun _ h => h⟩
  | e :: es, r, one, h => by
    obtain ⟨q, a1, a2, a3, a4⟩ := h
    obtain ⟨b1, b2⟩ := chain_perm es _ one a4
    exact ⟨b1.trans (swapAt_permW a1 a2), fun x hx => within_swp a1 a2 x (by rw [swp_at a1 a2]; exact b2 x hx)⟩
theorem dd__law_lessened : ∀ as k, S_law_lessened as k → w_law_lessened { nx := fun _ => k (.pub .none), rt := k } (as ++ List.replicate (6 - as.length) .emp) := by
  rintro _ k ⟨row, t, rfl, hl, hne, ht, q⟩
  simp only [List.length_cons, List.length_nil, List.replicate, List.cons_append, List.nil_append]
  simp only [gN_pub, gN_own, gT_s, gL_s, List.set_cons_succ, List.set_cons_zero, sSeq_s, sAsg_s, sIf_s, sRet_s, sNx_s, tV_s, tOr_s, tAnd_s, tNot_s, x1_s, x2_s, xCall_s, aC_s, aN_s, xP_s, xQ_s, xV_s, xC_s, xLst_s, xTup_s, pubs_pub', pubs_nil', List.getElem?_cons_succ, List.getElem?_cons_zero, varK_pub, varK_own, varK_sup, varK_supn, pubK_pub, pubK_own, pubK_sup, pubK_supn, rd_pub, rd_own, rd_var, rdV_own, rdV_pub, withD_some, withI_some, withB_some, withT_some, withL_s, List.all_cons, List.all_nil, okArg_pub, okArg_sup, oAdd_i, oSub_i, oMod_i, oEq_i, oNe_i, oLt_i, oGt_i, oLe_i, oGe_i, oIx_l, oIx_t, fLen_l, fLen_t, fTuple_l, fTuple_t, fList_l, fList_t, cnd_t, cnd_f, oNe_s, oEq_s, beq_self_eq_true, Bool.not_true, Bool.not_false, keepK_pub, keepK_own, keepK_sup, keepK_supn, noVar_pub, noVar_own, noVar_sup, noVar_supn, sPar_s, fInt_b, fInt_i, fMax2_i, oNe_l, oNe_t, List.map_cons, List.map_nil, gsl, gs, pbs, List.foldl_cons, List.foldl_nil, pb_s, pbV_own, pbV_pub, pbV_sup, pbV_emp, xPs_s, sFor_s, xLc_s, iX_s, withS_l, withS_t, iR1_s, oneI_s, hid_cons, hid_nil, hid1_pub, hid1_own, hid1_sup, hid1_supn, hid1_emp, wip, tYes_s]
  refine ⟨i62_of (by omega) (by omega), ?_⟩
  rw [show ((t : Int)).toNat = t by omega]
  refine forGo_rng0 (fun n δ => ∃ (r : List Int) (rs : List (List Int)) (x y z : Sl), δ = [.sup, .pub (tupI r), .pub (.int (t : Int)), x, y, z] ∧ rs.length ≤ n ∧ chain row (rs.map tupI) r) t ?_ ?_ _ ⟨row, [], _, _, _, rfl, Nat.le_refl _, rfl⟩
  · rintro i δ N hi hN ⟨r, rs, x, y, z, rfl, hrs, hc⟩
    have hp := (chain_perm _ _ _ hc).1
    have hrl := hp.length_eq
    have hr1 : 1 ≤ r.length := by
      have : row.length ≠ 0 := fun e => hne (List.eq_nil_of_length_eq_zero e)
      omega
    simp [tupI]
    refine ⟨i62_of (by omega) (by omega), ?_⟩
    refine ⟨by rw [rng_len]; omega, ?_⟩
    rw [rng0]
    refine lcGo_map (fun p : Nat => PyData.int (p : Int)) (fun p => [.sup, .pub (.tuple (r.map .int)), .pub (.int (t : Int)), .pub (.int (i : Int)), hid1 y, .pub (.int (p : Int))]) (fun p => decide (r.getD (p + 1) 0 < r.getD p 0)) (fun p => .int (p : Int)) _ _ ?_ ?_ ?_ ?_
    · intro p _ k h; simpa using h
    · intro p hp k h
      rw [List.mem_range] at hp
      simp [at_p (show p < r.length by omega), at_p1 (show p + 1 < r.length by omega)]
      simpa using h
    · intro p _ _ k h; simpa using h
    · rw [List.nil_append]
      generalize hg : (List.range (r.length - 1)).filter (fun p => decide (r.getD (p + 1) 0 < r.getD p 0)) = gs
      have hgs : ∀ p ∈ gs, p + 1 < r.length ∧ r.getD (p + 1) 0 < r.getD p 0 := fun p hp => by
        rw [← hg, List.mem_filter, List.mem_range, decide_eq_true_eq] at hp
        exact ⟨by omega, hp.2⟩
      have hgl : gs.length ≤ 30 := by
        rw [← hg]
        refine Nat.le_trans (List.length_filter_le _ _) ?_
        rw [List.length_range]; omega
      simp
      refine ⟨eqOk_nats gs, ?_⟩
      rw [eqv_emp]
      cases gs with
      | nil =>
        simp
        exact hN _ ⟨r, rs, _, _, _, rfl, by omega, hc⟩
      | cons g0 gr =>
        generalize hG : g0 :: gr = G at *
        have hne : (G.map fun p : Nat => PyData.int (p : Int)).isEmpty = false := by rw [← hG]; rfl
        rw [hne]
        simp
        have hG1 : 1 ≤ G.length := by rw [← hG]; simp
        refine ⟨(G.length : Int), rfl, by omega, by omega, fun j j0 j1 => ?_⟩
        obtain ⟨j, rfl⟩ := toN j0
        have hj : j < G.length := by omega
        have hat : atI (G.map fun p : Nat => PyData.int (p : Int)) (j : Int) = some (.int (G[j] : Nat)) := by
          rw [atI_of (by simpa using hj), List.getElem_map]
        obtain ⟨h1, h2⟩ := hgs _ (List.getElem_mem hj)
        generalize G[j] = p at *
        simp [hat, at_p (show p < r.length by omega), at_p1 h1, cutD_to, cut_p2]
        refine ⟨by omega, by omega, ?_⟩
        rw [swap_nf]
        exact hN _ ⟨_, rs ++ [swapAt r p], _, _, _, rfl, by simp; omega, by rw [List.map_append]; exact chain_add _ _ _ _ hc h1 h2⟩
  · rintro δ ⟨r, rs, x, y, z, rfl, hrs, hc⟩
    simpa [tupI] using q rs r hrs hc
theorem enc_pr2 : EncEq pr2 := fun x y => by
  obtain ⟨a, b⟩ := x
  obtain ⟨c, d⟩ := y
  show PyData.eqv (.tuple [.int a, .int b]) (.tuple [.int c, .int d]) = _
  simp [PyData.eqv, PyData.eqvAll]
  by_cases h1 : a = c <;> by_cases h2 : b = d <;> simp [h1, h2]
theorem lay_pr2 (p : Int × Int) : Lay (pr2 p) 1 := lay_ints [p.1, p.2]
theorem eqOk_pr2 (p : Int × Int) : eqOk (pr2 p) := (lay_pr2 p).eqOk (by decide)
theorem eqOk_prs (ps : List (Int × Int)) : eqOk (.tuple (ps.map pr2)) := (Lay.tupM fun p _ => lay_pr2 p).eqOk (by decide)
theorem eqOk_prsL (ps : List (Int × Int)) : eqOk (.list (ps.map pr2)) := (Lay.lstM fun p _ => lay_pr2 p).eqOk (by decide)
theorem dd_is_within : ∀ as k, Sis_within as k → wis_within { nx := fun _ => k (.pub .none), rt := k } (as ++ List.replicate (4 - as.length) .emp) := by
  rintro _ k ⟨one, other, rfl, h1, h2, q⟩
  simp [tupI]
  refine ⟨other, rfl, h2, ?_⟩
  simp [tupI]
  refine ⟨one, rfl, h1, ?_⟩
  simp
  have hlen := invP_len30 h1
  refine ⟨by rw [srtP_len]; omega, ?_⟩
  refine lcGo_all pr2 (fun p => [.pub (.tuple (one.map .int)), .pub (.tuple (other.map .int)), .pub (.tuple ((srtP (invP other)).map pr2)), .pub (pr2 p)]) (fun p => .bool (decide (p ∈ invP other))) _ ?_ ?_ ?_
  · intro p _ k h; simpa using h
  · intro p _ k h
    simp
    refine ⟨eqOk_pr2 p, eqOk_prs _, ?_⟩
    rw [enc_pr2.inD]
    simpa [(srtP_perm (invP other)).mem_iff] using h
  · have e := boolsOf_map ((srtP (invP one)).map fun p => decide (p ∈ invP other))
    rw [List.map_map] at e
    simp only [Function.comp_def] at e
    rw [e]
    simp
    have e2 : withinB one other = (srtP (invP one)).all fun p => decide (p ∈ invP other) := by
      unfold withinB
      rw [Bool.eq_iff_iff, List.all_eq_true, List.all_eq_true]
      simp only [(srtP_perm (invP one)).mem_iff]
    rw [e2] at q
    simpa [Function.comp_def] using q
theorem dd_next_exchange : ∀ as k, Snext_exchange as k → wnext_exchange { nx := fun _ => k (.pub .none), rt := k } (as ++ List.replicate (5 - as.length) .emp) := by
  rintro _ k ⟨one, other, rfl, hp, hne, hl, q⟩
  have hpl := hp.length_eq
  have h1 : one.length ≠ 0 := fun e => hne (List.eq_nil_of_length_eq_zero e)
  simp [tupI]
  refine ⟨i62_of (by omega) (by omega), ?_⟩
  rw [rng0]
  refine forGo_inv (fun p : Nat => PyData.int (p : Int)) (fun ps δ => ∃ (x y z : Sl), δ = [.pub (.tuple (other.map .int)), .pub (.tuple (one.map .int)), x, y, z] ∧ (∀ p ∈ ps, p + 1 < other.length) ∧ (ps.filter (good one other)).head? = (goods one other).head?) ?_ ?_ _ _ ⟨_, _, _, rfl, fun p hp => by rw [List.mem_range] at hp; omega, rfl⟩
  · rintro p ps δ N hN ⟨x, y, z, rfl, hb, hh⟩
    have hb1 := hb p List.mem_cons_self
    have m0 : other.getD p 0 ∈ one := hp.mem_iff.mpr (by rw [List.getD_eq_getElem?_getD, List.getElem?_eq_getElem (show p < other.length by omega)]; exact List.getElem_mem _)
    have m1 : other.getD (p + 1) 0 ∈ one := hp.mem_iff.mpr (by rw [List.getD_eq_getElem?_getD, List.getElem?_eq_getElem hb1]; exact List.getElem_mem _)
    have hgd : good one other p = (decide (other.getD (p + 1) 0 < other.getD p 0) && decide (one.idxOf (other.getD (p + 1) 0) < one.idxOf (other.getD p 0))) := rfl
    rw [List.filter_cons, hgd] at hh
    simp [at_p (show p < other.length by omega), at_p1 hb1]
    rw [List.getD_eq_getElem?_getD] at m0 m1
    rw [List.getD_eq_getElem?_getD, List.getD_eq_getElem?_getD] at hh
    generalize other[p]?.getD 0 = a at *
    generalize other[p + 1]?.getD 0 = b at *
    have go : ∀ δ', (∃ x y z : Sl, δ' = [.pub (.tuple (other.map .int)), .pub (.tuple (one.map .int)), x, y, z]) → (ps.filter (good one other)).head? = (goods one other).head? → N δ' := by
      rintro δ' ⟨x, y, z, rfl⟩ h
      exact hN _ ⟨x, y, z, rfl, fun p hp => hb p (List.mem_cons_of_mem _ hp), h⟩
    refine cnd_of (fun h => ?_) (fun h => ?_)
    · rw [h] at hh
      simp
      refine ⟨one, rfl, m1, one, rfl, m0, ?_⟩
      refine cnd_of (fun h2 => ?_) (fun h2 => ?_)
      · simp at h2
        rw [decide_eq_true h2] at hh
        rw [← hh] at q
        simpa using q
      · simp at h2
        rw [decide_eq_false (by omega)] at hh
        exact go _ ⟨_, _, _, rfl⟩ (by simpa using hh)
    · rw [h] at hh
      simp
      exact go _ ⟨_, _, _, rfl⟩ (by simpa using hh)
  · rintro δ ⟨x, y, z, rfl, hb, hh⟩
    rw [← hh] at q
    simpa using q
theorem at_last (xs : List PyData) (x : PyData) : atI (xs ++ [x]) (-1) = some x := atI_neg1 (by simp)
theorem eqv_R (a b : List Int) : PyData.eqv (.tuple (a.map PyData.int)) (.tuple (b.map PyData.int)) = decide (a = b) := enc_tupI a b
def muX (δ : DEnv) : Nat := 2000 - slLen δ[2]?
theorem dd_exchange_path : ∀ as k, Sexchange_path as k → wexchange_path { nx := fun _ => k (.pub .none), rt := k } (as ++ List.replicate (4 - as.length) .emp) := by
  rintro _ k ⟨one, other, rfl, hn, hpm, hne, hl, q⟩
  have hpl := hpm.length_eq
  simp [tupI]
  refine ⟨one, other, rfl, hl, by omega, ?_⟩
  simp
  cases hw : withinB one other with
  | false =>
    rw [hw, if_neg (by decide)] at q
    simpa using q
  | true =>
    rw [hw, if_pos rfl] at q
    simp
    refine ⟨one, other, rfl, hpm, hne, hl, ?_⟩
    simp
    have hg0 : PG one other := ⟨hn, hpm, within_B.mp hw⟩
    refine ⟨_, whGo_inv (fun δ => ∃ (acc : List (List Int)) (cur : List Int) (j : Nat), δ = [.pub (.tuple (one.map .int)), .pub (.tuple (other.map .int)), .own ((acc ++ [cur]).map tupI), .pub (match (goods one cur).head? with | none => .none | some p => .int (p : Int))] ∧ PG one cur ∧ (invP cur).length ≤ j ∧ acc.length + j ≤ 900 ∧ acc ++ pathG one j cur = pathO one other) muX ?_ _ _ ⟨[], other, (invP other).length, rfl, hg0, Nat.le_refl _, by have := invP_len30 (show other.length ≤ 30 by omega); rw [List.length_nil]; omega, rfl⟩ (Nat.lt_succ_self _)⟩
    rintro δ N ⟨acc, cur, j, rfl, hc, hj, ha, hp⟩ hN
    have hcl := hc.pm.length_eq
    cases hh : (goods one cur).head? with
    | none =>
      rw [pathG_end hh] at hp
      simp
      have e : (List.map tupI acc ++ [PyData.tuple (List.map PyData.int cur)]) = (pathO one other).map tupI := by rw [← hp]; simp [tupI]
      rw [e]; exact q
    | some p =>
      obtain ⟨i, rfl, h2, h3, h4, h5⟩ := pathG_go hc hh hj
      simp [at_last]
      obtain ⟨b1, b2⟩ := goods_mem.mp h2
      refine ⟨cur, p, rfl, by omega, b1, ?_⟩
      have e2 : atI (List.map tupI acc ++ [PyData.tuple (List.map PyData.int cur), PyData.tuple (List.map PyData.int (swapAt cur p))]) (-1) = some (PyData.tuple (List.map PyData.int (swapAt cur p))) := atI_neg1 (by simp)
      simp [e2]
      refine ⟨by omega, one, swapAt cur p, rfl, h3.pm, hne, hl, ?_⟩
      rw [h5] at hp
      simp
      refine hN _ ⟨acc ++ [cur], swapAt cur p, i, by simp [tupI] <;> (cases (goods one (swapAt cur p)).head? <;> rfl), h3, h4, by simp; omega, by simpa using hp⟩ ?_
      simp [muX, slLen]
      omega
theorem invP_mems {row : List Int} {p : Int × Int} (h : p ∈ invP row) : p.1 ∈ row ∧ p.2 ∈ row := by
  induction row with
  | nil => simp [invP] at h
  | cons x xs ih =>
    unfold invP at h
    rcases List.mem_append.mp h with h | h
    · obtain ⟨z, hz, rfl⟩ := List.mem_map.mp h
      exact ⟨List.mem_cons_of_mem _ (List.mem_filter.mp hz).1, List.mem_cons_self⟩
    · exact ⟨List.mem_cons_of_mem _ (ih h).1, List.mem_cons_of_mem _ (ih h).2⟩
theorem fine_bool17 (b : Bool) : FineQ (.bool b) 0 14 := ⟨by cases b <;> rfl, Nat.le_refl _, by cases b <;> decide⟩
theorem fine_none17 : FineQ .none 0 14 := ⟨rfl, Nat.le_refl _, by decide⟩
end LW

namespace DX
open PySem PySem.Spec L2 KX
open PyProof.Rows hiding St
section
variable {X : Cx} {F : Fam}
/-! t == (), whatever t holds -/
def rEqT0 (K : PySem.W.Frag) : R2 := fun x y H Q => ∃ (a b : Addr) (xs : List V), x = .ref a ∧ y = .ref b ∧ SqT K H a xs ∧ SqT K H b [] ∧ Q (.bl xs.isEmpty) H
theorem op_eqT0 (hu : X.A.units + 64 < cLine) : OpR X (compareOp .Eq) (rEqT0 X.K) := by
  intro pins s σ H x y v u Q I rx ry h
  obtain ⟨a, b, xs, rfl, rfl, ha, hb, q⟩ := h
  cases rx
  cases ry
  obtain ⟨its, r1, p1, _⟩ := I.tuple ha
  obtain ⟨jts, r2, p2, _⟩ := I.tuple hb
  cases r2
  refine PySem.W.eq_tuplesT (n := 3) (e := fun _ => true) p1 p2 (fun j h1 h2 => absurd h2 (by simp)) (by omega) ⟨.bl xs.isEmpty, H, I, ?_, q⟩
  show _ = _
  cases r1 <;> simp
def oEqT0 : O2
  | .tuple ds, .tuple [], k => k (.pub (.bool ds.isEmpty))
  | _, _, _ => False
@[simp ↓] theorem oEqT0_s (ds : List PyData) (k : Sl → Prop) : oEqT0 (.tuple ds) (.tuple []) k = k (.pub (.bool ds.isEmpty)) := rfl
theorem oEqT0_cases {d e : PyData} {k : Sl → Prop} (h : oEqT0 d e k) : ∃ ds, d = .tuple ds ∧ e = .tuple [] ∧ k (.pub (.bool ds.isEmpty)) := by
  unfold oEqT0 at h
  split at h
  · exact ⟨_, rfl, rfl, h⟩
  · exact h.elim
theorem s_eqT0 (hu : X.A.units + 64 < cLine) : OpS F X (compareOp .Eq) oEqT0 := ⟨_, op_eqT0 hu, fun C H U x y d e k Q e1 e2 w rx ry h q => by
  obtain ⟨ds, rfl, rfl, h⟩ := oEqT0_cases h
  obtain ⟨a, xs, rfl, h1, h2, _⟩ := rx.tup w
  obtain ⟨b, ys, rfl, h3, h4, _⟩ := ry.tup w
  cases h4
  have : xs.isEmpty = ds.isEmpty := by cases h2 <;> rfl
  exact ⟨a, b, xs, rfl, rfl, e1 ▸ h1, e1 ▸ h3, fin_pub w (by rw [this]; exact .bl _) h q⟩⟩
/-! tuple(range(n)) -/
def tTupRgB (te : L2.St → Hp → (Int → Int → Hp → Prop) → Prop) : TE := fun σ H Q => te σ H fun a b H1 => RgOk a b ∧ NewT H1 (rgV a b) Q
theorem pe_tupRgB {e : Expr} {te : L2.St → Hp → (Int → Int → Hp → Prop) → Prop} {p pos : Pos} (hc : X.calm = true) (hg : Gl X "tuple") (hm : X.mg "tuple" = none) (he : PRg X e te) (na : starEach [e] X.env = (false, eval e X.env) :: starEach [] X.env := by rfl) : PE X (.Call (.Name "tuple" p) [e] [] pos) (tTupRgB te) := by
  refine ⟨fun pins s σ H Q I h => ?_⟩
  refine Call_ (ld_blt I hg hm boot_tuple (PyProof.Rows.callWith_type1 (args_cons (thn (he pins s σ H _ I h) fun x s1 ⟨r, a, b, t, u, v, H1, ex, hr, I1, ok, q⟩ => args_nil ?_) na) na))
  subst ex
  obtain ⟨b1, b2, b3, b4, b5⟩ := ok
  refine call_tuple_range (n := (b - a).toNat) (I1.ok.hd hc) hr (small_one b1 b2 b3 b4) (rangeSize_nat a b) b5 fun h' tk acc hk hi => ?_
  have I2 : L2.Inv X pins σ H1 { s1 with heap := h', toks := tk } := I1.kept hk
  have := bare_end (tk := tk) I2 (by rw [rgV_length, sizeLine_eq]; omega) (vals_rg hi) q
  rw [Array.toArray_toList] at this
  exact this
variable {wa : DE} {a : Expr} {p p2 pos pos2 : Pos}
def xTR1 (wa : DE) (δ : DEnv) (Q : Sl → DEnv → Prop) : Prop := wa δ fun r δ1 => withI (rd δ1 r) fun n => -100000 ≤ n ∧ n ≤ 10000 ∧ Q (.pub (.tuple (rngD 0 n.toNat))) δ1
@[simp ↓] theorem xTR1_s (δ : DEnv) (Q : Sl → DEnv → Prop) : xTR1 wa δ Q = wa δ fun r δ1 => withI (rd δ1 r) fun n => -100000 ≤ n ∧ n ≤ 10000 ∧ Q (.pub (.tuple (rngD 0 n.toNat))) δ1 := rfl
theorem d_tr1 (hc : X.calm = true) (hgl : Gl X "tuple") (ml : X.mg "tuple" = none) (hgr : Gl X "range") (mr : X.mg "range" = none) (ha : PE X a (lE F X.K wa)) (h1 : starEach [a] X.env = (false, eval a X.env) :: starEach [] X.env := by rfl)
    (h2 : starEach [.Call (.Name "range" p2) [a] [] pos2] X.env = (false, eval (.Call (.Name "range" p2) [a] [] pos2) X.env) :: starEach [] X.env := by rfl) :
    PE X (.Call (.Name "tuple" p) [.Call (.Name "range" p2) [a] [] pos2] [] pos) (lE F X.K (xTR1 wa)) := by
  refine PE.imp (pe_tupRgB hc hgl ml (prg_1 hgr mr ha h1) h2) fun σ H Q ⟨C, δ, U, k, e1, e2, en, w, q⟩ => ?_
  refine ⟨C, δ, U, _, e1, e2, en, w, fun r δ1 w1 v1 H1 U1 s1 en1 o1 => ?_⟩
  obtain ⟨U1', s1', en1', g⟩ := hold_of en1 o1
  rw [withI_ex] at w1
  obtain ⟨n, hn, b1, b2, w1⟩ := w1
  obtain rfl := int_of en1' g hn
  refine ⟨n, rfl, ⟨by decide, by decide, by omega, by omega, ?_⟩, fun p' o' hp' ho' => ?_⟩
  · have : (2 : Nat) ^ 24 = 16777216 := by decide
    omega
  have e3 := rgV_eq 0 n
  have e4 := rngD_eq 0 n
  rw [Int.sub_zero] at e3 e4
  rw [e4] at w1
  rw [e3]
  have x2 : ExtK C H1 U1' (upd H1 p' (.frz o' (.tup (((List.range n.toNat).map fun x : Nat => (0 : Int) + (x : Int)).map V.int)))) (upd U1' p' (.frz o' (.tup (((List.range n.toNat).map fun x : Nat => (0 : Int) + (x : Int)).map V.int)))) := Ext.pub en1'.wd hp'
  exact q (.pub _) δ1 w1 _ _ _ (s1.trans (s1'.trans x2.us)) (en1'.ext x2) (show Dd _ _ _ _ from .tup (BqT.of ho') (ddAll_ints _))
end
end DX

namespace DX
open PySem PySem.Spec PySem.Builtin PySem.Builtin.Str L2 KX TL
open PyProof.Rows hiding St
/-! repr tells tuples of natural ints from everything else -/
def dig (c : Nat) : Prop := 48 ≤ c ∧ c ≤ 57
def headOk : PyData → Nat → Prop
  | .int _, c => dig c ∨ c = 45
  | .tuple _, c => c = 40
  | _, c => c = 78 ∨ c = 84 ∨ c = 70 ∨ c = 34 ∨ c = 39 ∨ c = 91 ∨ c = 123
theorem quote_or (x : Str) : reprQuote x = 34 ∨ reprQuote x = 39 := by
  unfold reprQuote; split
  · exact .inl rfl
  · exact .inr rfl
theorem fold_head (q : Nat) : ∀ (l : List Nat) (acc : Array Nat) (c : Nat) (r : List Nat), acc.toList = c :: r → ∃ r', (l.foldl (fun out c => out ++ (reprChar q c).toArray) acc).toList = c :: r'
  | [], acc, c, r, h => ⟨r, h⟩
  | x :: l, acc, c, r, h => by
    rw [List.foldl_cons]
    refine fold_head q l _ c (r ++ reprChar q x) ?_
    rw [Array.toList_append, h]
    simp
theorem from_head : ∀ (ts : List Str) (k : Nat) (acc : Str) (c : Nat) (r : List Nat), tl acc = c :: r → ∃ r', tl (textFrom k acc ts) = c :: r'
  | [], k, acc, c, r, h => ⟨r, h⟩
  | t :: ts, k, acc, c, r, h => by
    unfold textFrom
    refine from_head ts (k + 1) _ c (r ++ tl (Str.ofString (if k > 0 then ", " else "" : String)) ++ tl t) ?_
    rw [tl_append, tl_append, h]
    simp
theorem numL_cons (n : Nat) : ∃ c r, numL n = c :: r ∧ dig c := by
  cases h : numL n with
  | nil => exact absurd h (numL_ne n)
  | cons c r => exact ⟨c, r, rfl, (numL_digits n) c (by rw [h]; simp)⟩
theorem neg_head (n : Nat) : ∃ r, tl (Str.ofString (toString (Int.negSucc n))) = 45 :: r := by
  rw [tl_ofString, Int.toString_eq_repr, Int.repr_eq_if, if_neg (by omega), String.toList_append]
  exact ⟨_, rfl⟩
theorem head_shown (d : PyData) : ∃ c r, tl d.shown = c :: r ∧ headOk d c := by
  cases d with
  | none => exact ⟨78, [111, 110, 101], by rw [PyData.shown]; decide, .inl rfl⟩
  | bool b =>
    cases b
    · exact ⟨70, [97, 108, 115, 101], by rw [PyData.shown]; decide, .inr (.inr (.inl rfl))⟩
    · exact ⟨84, [114, 117, 101], by rw [PyData.shown]; decide, .inr (.inl rfl)⟩
  | int i =>
    cases i with
    | ofNat n =>
      obtain ⟨c, r, h, hd⟩ := numL_cons n
      refine ⟨c, r, ?_, .inl hd⟩
      rw [PyData.shown, ← h]
      exact tl_num n
    | negSucc n =>
      obtain ⟨r, h⟩ := neg_head n
      exact ⟨45, r, by rw [PyData.shown]; exact h, .inr rfl⟩
  | str x =>
    rw [PyData.shown]
    obtain ⟨r, h⟩ := fold_head (reprQuote x) x.cps.toList #[reprQuote x] (reprQuote x) [] rfl
    refine ⟨reprQuote x, r ++ [reprQuote x], ?_, ?_⟩
    · unfold reprText
      show ((x.cps.foldl (fun out c => out ++ (reprChar (reprQuote x) c).toArray) #[reprQuote x]).push (reprQuote x)).toList = _
      rw [Array.toList_push, ← Array.foldl_toList, h]
      rfl
    · rcases quote_or x with e | e
      · exact .inr (.inr (.inr (.inl e)))
      · exact .inr (.inr (.inr (.inr (.inl e))))
  | list xs =>
    rw [PyData.shown]
    obtain ⟨r, h⟩ := from_head (PyData.shownAll xs) 0 "[" 91 [] (by decide)
    refine ⟨91, r ++ tl (Str.ofString "]"), ?_, .inr (.inr (.inr (.inr (.inr (.inl rfl)))))⟩
    unfold listText
    rw [tl_append, h]; rfl
  | tuple xs =>
    rw [PyData.shown]
    unfold tupleText
    rw [tl_append, tl_append]
    exact ⟨40, _, rfl, rfl⟩
  | dict ks =>
    rw [PyData.shown]
    unfold dictText
    rw [tl_append, tl_append]
    exact ⟨123, _, rfl, .inr (.inr (.inr (.inr (.inr (.inr rfl)))))⟩
/-- no digit at the head -/
def noDig : List Nat → Prop
  | [] => True
  | c :: _ => ¬ dig c
theorem cut_dig : ∀ (a b r s : List Nat), (∀ c ∈ a, dig c) → (∀ c ∈ b, dig c) → noDig r → noDig s → a ++ r = b ++ s → a = b ∧ r = s
  | [], [], r, s, _, _, _, _, h => ⟨rfl, h⟩
  | [], y :: b, r, s, _, hb, hr, _, h => by
    rw [List.nil_append] at h
    rw [h] at hr
    exact absurd (hb y (by simp)) hr
  | x :: a, [], r, s, ha, _, _, hs, h => by
    rw [List.nil_append] at h
    rw [← h] at hs
    exact absurd (ha x (by simp)) hs
  | x :: a, y :: b, r, s, ha, hb, hr, hs, h => by
    rw [List.cons_append, List.cons_append] at h
    injection h with h1 h2
    obtain ⟨e1, e2⟩ := cut_dig a b r s (fun c hc => ha c (List.mem_cons_of_mem _ hc)) (fun c hc => hb c (List.mem_cons_of_mem _ hc)) hr hs h2
    exact ⟨by rw [h1, e1], e2⟩
theorem headOk_not {d : PyData} {c : Nat} (h : headOk d c) : c ≠ 41 ∧ c ≠ 44 := by
  cases d <;> unfold headOk at h <;> unfold dig at * <;> omega
def clo (e : List Nat) : Prop := e = [44, 41] ∨ e = [41]
theorem tl_natS {z : Int} (h : 0 ≤ z) : tl (PyData.shown (.int z)) = numL z.toNat := by
  obtain ⟨n, rfl⟩ := Int.eq_ofNat_of_zero_le h
  rw [PyData.shown]
  exact tl_num n
theorem int_of_dig {d : PyData} {c : Nat} {r : List Nat} (h : tl d.shown = c :: r) (hc : dig c) : ∃ n : Nat, d = .int n := by
  obtain ⟨c', r', h', ho⟩ := head_shown d
  rw [h] at h'
  injection h' with e1 e2
  subst e1
  cases d with
  | int i =>
    cases i with
    | ofNat n => exact ⟨n, rfl⟩
    | negSucc n =>
      obtain ⟨r2, h2⟩ := neg_head n
      rw [PyData.shown] at h
      rw [h] at h2
      injection h2 with e3 e4
      unfold dig at hc; omega
  | _ => unfold headOk at ho; unfold dig at hc; omega
theorem joins (S : List Nat) (p : List Nat) (ps e : List (List Nat)) (w : List Nat) : joinL S (p :: ps) ++ w = p ++ ((if ps = [] then [] else S ++ joinL S ps) ++ w) := by
  cases ps with
  | nil => simp [joinL]
  | cons q r => simp [joinL]
theorem join_inj : ∀ (ds : List PyData) (zs : List Int) (e f : List Nat), (∀ z ∈ zs, 0 ≤ z) → clo e → clo f → joinL [44, 32] ((ds.map PyData.shown).map tl) ++ e = joinL [44, 32] (((zs.map PyData.int).map PyData.shown).map tl) ++ f → ds = zs.map .int
  | [], [], _, _, _, _, _, _ => rfl
  | [], z :: zs, e, f, hz, he, hf, h => by
    exfalso
    rw [List.map_cons, List.map_cons, List.map_cons, joins _ _ _ [], tl_natS (hz z (by simp))] at h
    obtain ⟨c, r, h1, h2⟩ := numL_cons z.toNat
    rw [h1] at h
    unfold dig at h2
    rcases he with rfl | rfl <;> (simp [joinL] at h; omega)
  | d :: ds, [], e, f, hz, he, hf, h => by
    exfalso
    rw [List.map_cons, List.map_cons, joins _ _ _ []] at h
    obtain ⟨c, r, h1, h2⟩ := head_shown d
    have := headOk_not h2
    rw [h1] at h
    rcases hf with rfl | rfl <;> (simp [joinL] at h; omega)
  | d :: ds, z :: zs, e, f, hz, he, hf, h => by
    rw [List.map_cons, List.map_cons, List.map_cons, List.map_cons, List.map_cons, joins _ _ _ [], joins _ _ _ [], tl_natS (hz z (by simp))] at h
    have nd : ∀ (ps : List (List Nat)) (w : List Nat), clo w → noDig ((if ps = [] then [] else [44, 32] ++ joinL [44, 32] ps) ++ w) := fun ps w hw => by
      split
      · rcases hw with rfl | rfl <;> (show ¬ dig _; unfold dig; omega)
      · show ¬ dig 44
        unfold dig; omega
    obtain ⟨c, r, h1, h2⟩ := numL_cons z.toNat
    obtain ⟨c', r', h3, _⟩ := head_shown d
    have hc : c' = c := by
      rw [h1, h3] at h
      rw [List.cons_append, List.cons_append] at h
      injection h
    subst hc
    obtain ⟨n, rfl⟩ := int_of_dig h3 h2
    rw [tl_natS (by omega)] at h
    obtain ⟨e1, e2⟩ := cut_dig _ _ _ _ (numL_digits _) (numL_digits _) (nd _ e he) (nd _ f hf) h
    have e1 := numL_inj e1
    have hz0 := hz z (by simp)
    have : (n : Int) = z := by omega
    subst this
    rw [List.map_cons]
    congr 1
    refine join_inj ds zs e f (fun z hz' => hz z (List.mem_cons_of_mem _ hz')) he hf ?_
    cases ds with
    | nil => cases zs with
      | nil => simpa [joinL] using e2
      | cons z2 zs =>
        exfalso
        rcases he with rfl | rfl <;> simp at e2
    | cons d2 ds => cases zs with
      | nil =>
        exfalso
        rcases hf with rfl | rfl <;> simp at e2
      | cons z2 zs =>
        rw [if_neg (by simp), if_neg (by simp), List.append_assoc, List.append_assoc] at e2
        exact List.append_cancel_left e2
theorem shownAll_map : ∀ ds : List PyData, PyData.shownAll ds = ds.map PyData.shown
  | [] => by rw [PyData.shownAll]; rfl
  | d :: ds => by rw [PyData.shownAll, shownAll_map ds]; rfl
theorem shown_inj {d : PyData} {zs : List Int} (hz : ∀ z ∈ zs, 0 ≤ z) (h : d.shown = (PyData.tuple (zs.map .int)).shown) : d = .tuple (zs.map .int) := by
  obtain ⟨c, r, h1, h2⟩ := head_shown d
  obtain ⟨c', r', h3, h4⟩ := head_shown (.tuple (zs.map .int))
  rw [h, h3] at h1
  injection h1 with e1 e2
  subst e1
  have h4 : c' = 40 := h4
  cases d with
  | tuple ds =>
    congr 1
    rw [PyData.shown, PyData.shown] at h
    unfold tupleText at h
    have h := congrArg tl h
    rw [tl_append, tl_append, tl_append, tl_append, List.append_assoc, List.append_assoc, tl_join, tl_join, shownAll_map, shownAll_map] at h
    have h := List.append_cancel_left h
    have hc : ∀ b : Bool, clo (tl (Str.ofString (if b then ",)" else ")" : String))) := fun b => by
      cases b
      · exact .inr (by decide)
      · exact .inl (by decide)
    exact join_inj ds zs _ _ hz (hc _) (hc _) h
  | int i => unfold headOk dig at h2; omega
  | _ => unfold headOk at h2; omega
/-! the signs of what repr gives -/
def OkS (d : PyData) : Prop := ∀ c ∈ tl d.shown, c < 1114112
theorem OkS.strOk {d : PyData} (h : OkS d) : PyData.strOk d.shown = true := by
  unfold PyData.strOk
  rw [Array.all_eq_true_iff_forall_mem]
  intro c hc
  have := h c (Array.mem_toList_iff.mpr hc)
  simpa using this
theorem okS_int (i : Int) : OkS (.int i) := fun c hc => by
  have h := @shown_int_free' c
  by_cases h1 : c ≠ 45 ∧ (c < 48 ∨ 57 < c)
  · exact absurd hc (h h1 i)
  · omega
theorem okS_none : OkS .none := fun c hc => by
  have : tl (PyData.shown .none) = [78, 111, 110, 101] := by rw [PyData.shown]; decide
  rw [this] at hc
  simp at hc; omega
theorem okS_bool (b : Bool) : OkS (.bool b) := fun c hc => by
  have : tl (PyData.shown (.bool b)) = if b then [84, 114, 117, 101] else [70, 97, 108, 115, 101] := by cases b <;> (rw [PyData.shown]; decide)
  rw [this] at hc
  cases b <;> simp at hc <;> omega
theorem mem_joinL {S : List Nat} {c : Nat} : ∀ ps : List (List Nat), c ∈ joinL S ps → c ∈ S ∨ ∃ p ∈ ps, c ∈ p
  | [], h => by simp [joinL] at h
  | p :: ps, h => by
    have h2 := joins S p ps [] []
    rw [List.append_nil, List.append_nil] at h2
    rw [h2] at h
    rcases List.mem_append.mp h with h | h
    · exact .inr ⟨p, by simp, h⟩
    · split at h
      · cases h
      · rcases List.mem_append.mp h with h | h
        · exact .inl h
        · rcases mem_joinL ps h with h | ⟨q, hq, h⟩
          · exact .inl h
          · exact .inr ⟨q, List.mem_cons_of_mem _ hq, h⟩
theorem okS_tup {ds : List PyData} (h : ∀ d ∈ ds, OkS d) : OkS (.tuple ds) := fun c hc => by
  rw [PyData.shown] at hc
  unfold tupleText at hc
  rw [tl_append, tl_append, tl_join, shownAll_map] at hc
  rcases List.mem_append.mp hc with hc | hc
  · rcases List.mem_append.mp hc with hc | hc
    · have : tl (Str.ofString "(") = [40] := by decide
      rw [this] at hc; simp at hc; omega
    · rcases mem_joinL _ hc with hc | ⟨p, hp, hc⟩
      · have : tl (Str.ofString ", ") = [44, 32] := by decide
        rw [this] at hc; simp at hc; omega
      · obtain ⟨t, ht, rfl⟩ := List.mem_map.mp hp
        obtain ⟨d, hd, rfl⟩ := List.mem_map.mp ht
        exact h d hd c hc
  · have : ∀ b : Bool, tl (Str.ofString (if b then ",)" else ")" : String)) = if b then [44, 41] else [41] := fun b => by cases b <;> decide
    rw [this] at hc
    split at hc <;> (simp at hc; omega)
theorem from_mem {c : Nat} : ∀ (ts : List Str) (k : Nat) (acc : Str), c ∈ tl (textFrom k acc ts) → c ∈ tl acc ∨ c = 44 ∨ c = 32 ∨ ∃ t ∈ ts, c ∈ tl t
  | [], k, acc, h => .inl h
  | t :: ts, k, acc, h => by
    unfold textFrom at h
    rcases from_mem ts (k + 1) _ h with h | h | h | ⟨u, hu, h⟩
    · rw [tl_append, tl_append] at h
      rcases List.mem_append.mp h with h | h
      · rcases List.mem_append.mp h with h | h
        · exact .inl h
        · have : tl (Str.ofString (if k > 0 then ", " else "" : String)) = if k > 0 then [44, 32] else [] := by split <;> decide
          rw [this] at h
          split at h
          · simp at h; omega
          · cases h
      · exact .inr (.inr (.inr ⟨t, by simp, h⟩))
    · exact .inr (.inl h)
    · exact .inr (.inr (.inl h))
    · exact .inr (.inr (.inr ⟨u, List.mem_cons_of_mem _ hu, h⟩))
theorem okS_lst {ds : List PyData} (h : ∀ d ∈ ds, OkS d) : OkS (.list ds) := fun c hc => by
  rw [PyData.shown] at hc
  unfold listText at hc
  rw [tl_append, shownAll_map] at hc
  rcases List.mem_append.mp hc with hc | hc
  · rcases from_mem _ _ _ hc with hc | hc | hc | ⟨t, ht, hc⟩
    · have : tl (Str.ofString "[") = [91] := by decide
      rw [this] at hc; simp at hc; omega
    · omega
    · omega
    · obtain ⟨d, hd, rfl⟩ := List.mem_map.mp ht
      exact h d hd c hc
  · have : tl (Str.ofString "]") = [93] := by decide
    rw [this] at hc; simp at hc; omega
end DX

namespace LW
open PySem PySem.Spec L2 KX DX MX
open PyProof.Rows hiding St
/-! is it a row, is it a path: of any value -/
def RowD (d : PyData) : Prop := ∃ row : List Int, d = tupI row ∧ RowOk row ∧ 1 ≤ row.length ∧ row.length ≤ 24
def smallT (d : PyData) : Prop := ∀ ds, d = .tuple ds → ds.length ≤ 9000
def Srow_error : DF := fun as k => ∃ d : PyData, as = [.pub d] ∧ smallT d ∧ (RowD d → k (.pub .none)) ∧ (¬ RowD d → ∀ x y, k (.pub (.tuple [x, y])))
def Sis_row : DF := fun as k => ∃ d : PyData, as = [.pub d] ∧ smallT d ∧ (RowD d → k (.pub (.bool true))) ∧ (¬ RowD d → k (.pub (.bool false)))
def arisB (row before : List Int) : Bool := (List.range (before.length - 1)).any fun p => decide (before.getD (p + 1) 0 < before.getD p 0) && decide (row = swapAt before p)
def Sarises_by_exchange : DF := fun as k => ∃ row before : List Int, as = [.pub (tupI row), .pub (tupI before)] ∧ before.length ≤ 24 ∧ before ≠ [] ∧ k (.pub (.bool (arisB row before)))
def PathD (one other : List Int) (d : PyData) : Prop := ∃ ds, d = .tuple (tupI other :: ds) ∧ chain other ds one
def Sexchange_path_holds : DF := fun as k => ∃ (one other : List Int) (d : PyData), as = [.pub (tupI one), .pub (tupI other), .pub d] ∧ RowD (tupI other) ∧ smallT d ∧ (∀ ds, d = .tuple ds → ∀ e ∈ ds, smallT e) ∧ (PathD one other d → k (.pub (.bool true))) ∧ (¬ PathD one other d → k (.pub (.bool false)))
abbrev warises_by_exchange : DS := (sSeq (sAsg (xPs [1] (xLc [3] (iR1 (aC (x2 oSub (x1 fLen (xV 1)) (xC (.int 1))) aN)) (gN 3) (tV (x2 oGt (x2 oIx (xV 1) (xV 3)) (x2 oIx (xV 1) (x2 oAdd (xV 3) (xC (.int 1)))))) (xV 3))) (gN 2))
  (sRet (x2 oInD (xV 0) (xPs [1] (xLc [3] (iX (xV 2)) (gN 3) tYes' (xCall Safter_exchange (aC (xP (xV 1)) (aC (xP (xV 3)) aN))))))))
abbrev wrow_error : DS := (sSeq (sIf (tNot' (tV (x1 (fIsi isTupD) (xV 0))))
  (sRet (xTup (aC (xP (xC .none)) (aC (xP (xC (.str "tuple"))) aN))))
  sNx)
  (sSeq (sIf (tNot' (tV (xCh oLe oLe (xC (.int 1)) (x1 fLen (xV 0)) (xC (.int 24)))))
  (sRet (xTup (aC (xP (xC .none)) (aC (xP (xC (.str "length"))) aN))))
  sNx)
  (sSeq (sFor (iE (xV 0)) (gT [(gN 1), (gN 2)])
  (sSeq (sIf (tNot' (tV (xCall Sis_key (aC (xP (xV 2)) aN))))
  (sRet (xTup (aC (xP (xV 1)) (aC (xP (xC (.str "key"))) aN))))
  sNx)
  (sIf (tV (x2 oInD (xV 2) (xSl (xV 0) pN (pS (xV 1)))))
  (sRet (xTup (aC (xP (xV 1)) (aC (xP (xC (.str "duplicate"))) aN))))
  sNx)))
  (sRet (xC .none)))))
abbrev wis_row : DS := (sRet (x2 oIs (xCall Srow_error (aC (xP (xV 0)) aN)) (xC .none)))
abbrev wexchange_path_holds : DS := (sSeq (sIf (tOr' (tNot' (tV (x1 (fIsi isTupD) (xV 2)))) (tNot' (tV (x1 fAll (xPs [] (xLc [3] (iX (xV 2)) (gN 3) tYes' (xCall Sis_row (aC (xP (xV 3)) aN))))))))
  (sRet (xC (.bool false)))
  sNx)
  (sSeq (sIf (tOr' (tV (x2 oEq (x1 fLen (xV 2)) (xC (.int 0)))) (tOr' (tV (x2 oNe (x2 oIx (xV 2) (xC (.int 0))) (xV 1))) (tV (x2 oNe (x2 oIx (xV 2) (x1 oNeg (xC (.int 1)))) (xV 0)))))
  (sRet (xC (.bool false)))
  sNx)
  (sRet (x1 fAll (xPs [2] (xLc [4] (iR2 (aC (xC (.int 1)) (aC (x1 fLen (xV 2)) aN))) (gN 4) tYes' (xCall Sarises_by_exchange (aC (xP (x2 oIx (xV 2) (xV 4))) (aC (xP (x2 oIx (xV 2) (x2 oSub (xV 4) (xC (.int 1))))) aN)))))))))
theorem len_row_error : ∀ as k, Srow_error as k → as.length = 1 := by rintro _ k ⟨d, rfl, _⟩; rfl
theorem len_is_row : ∀ as k, Sis_row as k → as.length = 1 := by rintro _ k ⟨d, rfl, _⟩; rfl
theorem len_arises_by_exchange : ∀ as k, Sarises_by_exchange as k → as.length = 2 := by rintro _ k ⟨d, e, rfl, _⟩; rfl
theorem len_exchange_path_holds : ∀ as k, Sexchange_path_holds as k → as.length = 3 := by rintro _ k ⟨d, e, f, rfl, _⟩; rfl
theorem dd_is_row : ∀ as k, Sis_row as k → wis_row { nx := fun _ => k (.pub .none), rt := k } (as ++ List.replicate (1 - as.length) .emp) := by
  rintro _ k ⟨d, rfl, hs, q1, q2⟩
  simp
  refine ⟨d, rfl, hs, fun h => ?_, fun h x y => ?_⟩
  · simpa using q1 h
  · simpa using q2 h
theorem dd_arises_by_exchange : ∀ as k, Sarises_by_exchange as k → warises_by_exchange { nx := fun _ => k (.pub .none), rt := k } (as ++ List.replicate (4 - as.length) .emp) := by
  rintro _ k ⟨row, before, rfl, hl, hne, q⟩
  have h1 : before.length ≠ 0 := fun e => hne (List.eq_nil_of_length_eq_zero e)
  simp [tupI]
  refine ⟨i62_of (by omega) (by omega), by rw [rng_len]; omega, ?_⟩
  rw [rng0]
  refine lcGo_map (fun p : Nat => PyData.int (p : Int)) (fun p => [.pub (.tuple (row.map .int)), .pub (.tuple (before.map .int)), .emp, .pub (.int (p : Int))]) (fun p => decide (before.getD (p + 1) 0 < before.getD p 0)) (fun p => .int (p : Int)) _ _ ?_ ?_ ?_ ?_
  · intro p _ k h; simpa using h
  · intro p hp k h
    rw [List.mem_range] at hp
    simp [at_p (show p < before.length by omega), at_p1 (show p + 1 < before.length by omega)]
    simpa using h
  · intro p _ _ k h; simpa using h
  · rw [List.nil_append]
    have hA : arisB row before = decide (row ∈ ((List.range (before.length - 1)).filter (fun p => decide (before.getD (p + 1) 0 < before.getD p 0))).map (swapAt before)) := by
      unfold arisB
      rw [Bool.eq_iff_iff, List.any_eq_true, decide_eq_true_eq, List.mem_map]
      constructor
      · rintro ⟨p, hp, h⟩
        rw [Bool.and_eq_true, decide_eq_true_eq] at h
        exact ⟨p, List.mem_filter.mpr ⟨hp, by simpa using h.1⟩, (by simpa using h.2 : row = swapAt before p).symm⟩
      · rintro ⟨p, hp, h⟩
        obtain ⟨h2, h3⟩ := List.mem_filter.mp hp
        exact ⟨p, h2, by rw [h3, h]; simp⟩
    rw [hA] at q
    generalize hg : (List.range (before.length - 1)).filter (fun p => decide (before.getD (p + 1) 0 < before.getD p 0)) = gs at *
    have hgs : ∀ p ∈ gs, p + 1 < before.length := fun p hp => by
      rw [← hg, List.mem_filter, List.mem_range] at hp
      omega
    have hgl : gs.length ≤ 30 := by
      rw [← hg]
      refine Nat.le_trans (List.length_filter_le _ _) ?_
      rw [List.length_range]; omega
    simp
    refine ⟨by omega, ?_⟩
    refine lcGo_all (fun p : Nat => PyData.int (p : Int)) (fun p => [.pub (.tuple (row.map .int)), .pub (.tuple (before.map .int)), .pub (.list (gs.map fun p : Nat => PyData.int (p : Int))), .pub (.int (p : Int))]) (fun p => tupI (swapAt before p)) _ ?_ ?_ ?_
    · intro p _ k h; simpa using h
    · intro p hp k h
      simp
      refine ⟨before, p, rfl, by omega, hgs p hp, ?_⟩
      simpa using h
    · have e : (gs.map fun p => tupI (swapAt before p)) = (gs.map (swapAt before)).map tupI := by rw [List.map_map]; rfl
      rw [e]
      have hb : eqOk (.list ((gs.map (swapAt before)).map tupI)) := (Lay.lstM fun r _ => lay_ints r).eqOk (by decide)
      have e2 := enc_tupI.inD row (gs.map (swapAt before))
      simp
      rw [← List.map_map]
      refine ⟨hb, ?_⟩
      have e2 : inD (.tuple (row.map .int)) ((gs.map (swapAt before)).map tupI) = decide (row ∈ gs.map (swapAt before)) := Eq.trans (enc_tupI.inD row _) (decide_eq_decide.mpr Iff.rfl)
      rw [e2]
      exact q
theorem dd_row_error : ∀ as k, Srow_error as k → wrow_error { nx := fun _ => k (.pub .none), rt := k } (as ++ List.replicate (3 - as.length) .emp) := by
  rintro _ k ⟨d, rfl, hs, q1, q2⟩
  cases d with
  | tuple ds =>
    have hl := hs ds rfl
    simp [isTupD]
    by_cases h1 : 1 ≤ ds.length
    · by_cases h2 : ds.length ≤ 24
      · have e1 : (1 : Int) ≤ (ds.length : Int) := by omega
        have e2 : (ds.length : Int) ≤ 24 := by omega
        simp [h1, h2, e1, e2]
        have hp : pairs 0 ds = pairs 0 (ds.map id) := by rw [List.map_id]
        rw [hp]
        refine forGo_en id ds (fun i δ => ∃ (row : List Int) (x y : Sl), δ = [.pub (.tuple ds), x, y] ∧ ds.take i = row.map .int ∧ row.length = i ∧ RowOk row) ?_ ?_ _ ⟨[], _, _, rfl, rfl, rfl, ⟨List.nodup_nil, fun _ h => nomatch h⟩⟩
        · rintro i δ N hi hN ⟨row, x, y, rfl, ht, hrl, hR⟩
          have hget : ∀ row' : List Int, ds = row'.map .int → row = row'.take i ∧ ∃ z, row'[i]? = some z ∧ ds[i] = .int z := fun row' h => by
            subst h
            rw [← List.map_take] at ht
            refine ⟨((List.map_inj_right fun a b e => by injection e).mp ht).symm, ?_⟩
            have hi' : i < row'.length := by simpa using hi
            exact ⟨row'[i], List.getElem?_eq_getElem hi', by simp⟩
          simp
          refine ⟨ds[i], rfl, ?_⟩
          cases hk : keyD ds[i] with
          | false =>
            simp
            exact q2 (fun ⟨row', h, hR', _, _⟩ => by
              injection h with h
              obtain ⟨_, z, hz, hz2⟩ := hget row' h
              have := hR'.key z (List.mem_of_getElem? hz)
              rw [hz2] at hk
              simp [keyD, betwD, this.1, this.2] at hk) _ _
          | true =>
            obtain ⟨z, hz, z0, z1⟩ : ∃ z : Int, ds[i] = .int z ∧ 0 ≤ z ∧ z ≤ 1000000000000 := by
              cases hd : ds[i] with
              | int z => rw [hd] at hk; simp [keyD, betwD] at hk; exact ⟨z, rfl, hk.1, hk.2⟩
              | _ => rw [hd] at hk; simp [keyD, betwD] at hk
            have hcut : DX.cutD ds none (some (i : Int)) = row.map .int := by
              rw [← ht]
              unfold DX.cutD
              rw [HT.sIx_none, HT.sIx_nat]
              simp
            rw [hz]
            simp [hcut, inD_ints]
            by_cases hm : z ∈ row
            · simp [hm]
              exact q2 (fun ⟨row', h, hR', _, _⟩ => by
                injection h with h
                obtain ⟨h1, z', hz', hz2⟩ := hget row' h
                rw [hz] at hz2
                injection hz2 with hz2
                subst hz2
                rw [h1] at hm
                obtain ⟨j, hj, hj2⟩ := List.mem_iff_getElem.mp hm
                rw [List.getElem_take] at hj2
                have hj3 : j < i := by rw [List.length_take] at hj; omega
                obtain ⟨hi2, hi3⟩ := List.getElem?_eq_some_iff.mp hz'
                have a := hR'.nd.idxOf_getElem j (by omega)
                have b := hR'.nd.idxOf_getElem i hi2
                rw [hj2] at a
                rw [hi3] at b
                omega) _ _
            · simp [hm]
              refine hN _ ⟨row ++ [z], _, _, rfl, ?_, by simp [hrl], ⟨?_, ?_⟩⟩
              · rw [List.take_add_one, ht, List.getElem?_eq_getElem hi, hz]
                simp
              · rw [List.nodup_append]
                exact ⟨hR.nd, by simp, fun a ha b hb e => hm (by rw [List.mem_singleton.mp hb] at e; rw [← e]; exact ha)⟩
              · intro k hk
                rcases List.mem_append.mp hk with h | h
                · exact hR.key k h
                · rw [List.mem_singleton] at h; subst h; exact ⟨z0, z1⟩
        · rintro δ ⟨row, x, y, rfl, ht, hrl, hR⟩
          rw [List.take_length] at ht
          simp
          exact q1 ⟨row, by rw [ht]; rfl, hR, by omega, by omega⟩
      · have e1 : (1 : Int) ≤ (ds.length : Int) := by omega
        have e2 : ¬ (ds.length : Int) ≤ 24 := by omega
        simp [h1, h2, e1, e2]
        exact q2 (fun ⟨row, h, _, _, h4⟩ => by
          injection h with h
          have := congrArg List.length h
          rw [List.length_map] at this; omega) _ _
    · have e1 : ¬ (1 : Int) ≤ (ds.length : Int) := by omega
      simp [h1, e1]
      exact q2 (fun ⟨row, h, _, h3, _⟩ => by
          injection h with h
          have := congrArg List.length h
          rw [List.length_map] at this; omega) _ _
  | _ =>
    simp [isTupD]
    exact q2 (fun ⟨row, h, _⟩ => nomatch h) _ _
theorem tupI_inj {a b : List Int} : tupI a = tupI b ↔ a = b := ⟨fun h => (List.map_inj_right (f := PyData.int) fun x y e => PyData.int.inj e).mp (PyData.tuple.inj h), fun h => by rw [h]⟩
theorem arisB_iff {row before : List Int} : arisB row before = true ↔ ∃ p, p + 1 < before.length ∧ before.getD (p + 1) 0 < before.getD p 0 ∧ row = swapAt before p := by
  unfold arisB
  rw [List.any_eq_true]
  constructor
  · rintro ⟨p, hp, h⟩
    rw [List.mem_range] at hp
    rw [Bool.and_eq_true, decide_eq_true_eq, decide_eq_true_eq] at h
    exact ⟨p, by omega, h.1, h.2⟩
  · rintro ⟨p, h1, h2, h3⟩
    exact ⟨p, List.mem_range.mpr (by omega), by rw [Bool.and_eq_true, decide_eq_true_eq, decide_eq_true_eq]; exact ⟨h2, h3⟩⟩
theorem rowD_swap {r : List Int} {p : Nat} (h : RowD (tupI r)) (h1 : p + 1 < r.length) (h2 : r.getD (p + 1) 0 < r.getD p 0) : RowD (tupI (swapAt r p)) := by
  obtain ⟨r', e, hR, h3, h4⟩ := h
  have e : r = r' := tupI_inj.mp e
  subst e
  have hp := swapAt_permW h1 h2
  exact ⟨swapAt r p, rfl, ⟨hp.nodup_iff.mpr hR.nd, fun k hk => hR.key k (hp.mem_iff.mp hk)⟩, by rw [hp.length_eq]; exact h3, by rw [hp.length_eq]; exact h4⟩
/-- a path of rows, place by place -/
theorem chain_iff : ∀ (r : List Int) (rest : List (List Int)) (one : List Int), chain r (rest.map tupI) one ↔ (r :: rest).getLast? = some one ∧ ∀ i, i < rest.length → arisB (rest.getD i []) ((r :: rest).getD i []) = true
  | r, [], one => by simp [chain]
  | r, e :: rest, one => by
    have ih := fun r' => chain_iff r' rest one
    show (∃ p, p + 1 < r.length ∧ r.getD (p + 1) 0 < r.getD p 0 ∧ tupI e = tupI (swapAt r p) ∧ chain (swapAt r p) (rest.map tupI) one) ↔ _
    constructor
    · rintro ⟨p, h1, h2, h3, h4⟩
      have e3 : e = swapAt r p := tupI_inj.mp h3
      subst e3
      obtain ⟨h5, h6⟩ := (ih _).mp h4
      refine ⟨by rw [List.getLast?_cons_cons]; exact h5, fun i hi => ?_⟩
      cases i with
      | zero => exact arisB_iff.mpr ⟨p, h1, h2, rfl⟩
      | succ i => exact h6 i (by simpa using hi)
    · rintro ⟨h1, h2⟩
      obtain ⟨p, h3, h4, h5⟩ := arisB_iff.mp (h2 0 (by simp))
      have h5 : e = swapAt r p := h5
      have h3 : p + 1 < r.length := h3
      have h4 : r.getD (p + 1) 0 < r.getD p 0 := h4
      refine ⟨p, h3, h4, by rw [h5], ?_⟩
      rw [← h5]
      exact (ih _).mpr ⟨by rw [List.getLast?_cons_cons] at h1; exact h1, fun i hi => h2 (i + 1) (by simpa using hi)⟩
theorem chain_rows : ∀ (es : List PyData) (r one : List Int), RowD (tupI r) → chain r es one → ∀ e ∈ es, RowD e
  | [], _, _, _, _, _, h => nomatch h
  | e :: es, r, one, hr, hc, d, hd => by
    obtain ⟨p, h1, h2, h3, h4⟩ := hc
    have hr2 := rowD_swap hr h1 h2
    rcases List.mem_cons.mp hd with rfl | hd
    · rw [h3]; exact hr2
    · exact chain_rows es _ one hr2 h4 d hd
theorem rows_of : ∀ ds : List PyData, (∀ d ∈ ds, RowD d) → ∃ rows : List (List Int), ds = rows.map tupI ∧ ∀ r ∈ rows, RowOk r ∧ 1 ≤ r.length ∧ r.length ≤ 24
  | [], _ => ⟨[], rfl, fun _ h => nomatch h⟩
  | d :: ds, h => by
    obtain ⟨rows, rfl, hr⟩ := rows_of ds fun e he => h e (List.mem_cons_of_mem _ he)
    obtain ⟨r, rfl, h1, h2, h3⟩ := h d List.mem_cons_self
    refine ⟨r :: rows, rfl, fun x hx => ?_⟩
    rcases List.mem_cons.mp hx with rfl | hx
    · exact ⟨h1, h2, h3⟩
    · exact hr x hx
theorem pathD_rows {one other r : List Int} {rest : List (List Int)} : PathD one other (.tuple ((r :: rest).map tupI)) ↔ r = other ∧ (r :: rest).getLast? = some one ∧ ∀ i, i < rest.length → arisB (rest.getD i []) ((r :: rest).getD i []) = true := by
  constructor
  · rintro ⟨ds, h1, h2⟩
    injection h1 with h1
    rw [List.map_cons] at h1
    injection h1 with h3 h4
    have h3 := tupI_inj.mp h3
    subst h3 h4
    exact ⟨rfl, (chain_iff _ _ _).mp h2⟩
  · rintro ⟨rfl, h⟩
    exact ⟨rest.map tupI, rfl, (chain_iff _ _ _).mpr h⟩
theorem at_rows {rows : List (List Int)} {j : Nat} (h : j < rows.length) : atI (rows.map tupI) (j : Int) = some (tupI (rows.getD j [])) := by
  rw [atI_of (by simpa using h), List.getElem_map, List.getD_eq_getElem?_getD, List.getElem?_eq_getElem h]; rfl
open Classical in
theorem dd_exchange_path_holds : ∀ as k, Sexchange_path_holds as k → wexchange_path_holds { nx := fun _ => k (.pub .none), rt := k } (as ++ List.replicate (5 - as.length) .emp) := by
  rintro _ k ⟨one, other, d, rfl, hO, hs, hs2, q1, q2⟩
  cases d with
  | tuple ds =>
    have hl := hs ds rfl
    simp [isTupD]
    refine ⟨by omega, ?_⟩
    have el : ds = ds.map id := by rw [List.map_id]
    have hgo : ∀ (δ : DEnv) (Q : List PyData → Prop) (te : DE) (E : PyData → DEnv), (∀ x ∈ ds, ∀ k, k (E x) → gN 3 (.pub x) δ k) → (∀ x ∈ ds, ∀ k : Sl → DEnv → Prop, k (.pub (.bool (decide (RowD x)))) (E x) → te (E x) k) → Q (ds.map fun x => .bool (decide (RowD x))) → lcGo (gN 3) tYes' te δ ds [] Q := fun δ Q te E h1 h2 h3 => by
      rw [el]
      exact lcGo_all id E (fun x => .bool (decide (RowD x))) ds h1 h2 h3
    refine hgo _ _ _ (fun x => [.pub (.tuple (one.map .int)), .pub (.tuple (other.map .int)), .pub (.tuple ds), .pub x, .emp]) (fun x _ k h => by simpa using h) (fun x hx k h => ?_) ?_
    · simp
      refine ⟨x, rfl, hs2 ds rfl x hx, fun hr => ?_, fun hr => ?_⟩
      · simpa [hr] using h
      · simpa [hr] using h
    have hb := boolsOf_map (ds.map fun x => decide (RowD x))
    rw [List.map_map] at hb
    simp only [Function.comp_def] at hb
    rw [hb]
    by_cases hall : ∀ d ∈ ds, RowD d
    · have ha : (ds.map fun x => decide (RowD x)).all id = true := by
        rw [List.all_eq_true]
        intro b hb
        obtain ⟨x, hx, rfl⟩ := List.mem_map.mp hb
        simpa using hall x hx
      simp only [withD_some]
      rw [ha]
      clear ha hb hgo
      obtain ⟨rows, rfl, hrs⟩ := rows_of ds hall
      cases rows with
      | nil =>
        simp
        exact q2 (fun ⟨ds, h, _⟩ => by injection h with h; cases h)
      | cons r rest =>
        obtain ⟨l, hlast⟩ : ∃ l, (r :: rest).getLast? = some l := ⟨(r :: rest).getLast (by simp), List.getLast?_eq_some_getLast (by simp)⟩
        have e0 : ((rest.length : Int) + 1 == 0) = false := by simp; omega
        have hat0 : atI (PyData.tuple (r.map PyData.int) :: rest.map tupI) 0 = some (.tuple (r.map .int)) := by
          have := atI_of (xs := PyData.tuple (r.map PyData.int) :: rest.map tupI) (j := 0) (by simp)
          simpa using this
        have hatl : atI (PyData.tuple (r.map PyData.int) :: rest.map tupI) (-1) = some (.tuple (l.map .int)) := by
          refine atI_neg1 ?_
          have : (PyData.tuple (r.map PyData.int) :: rest.map tupI) = (r :: rest).map tupI := rfl
          rw [this, List.getLast?_map, hlast]
          rfl
        simp [e0, hat0]
        by_cases h0 : r = other
        · subst h0
          simp [hatl]
          by_cases h1 : l = one
          · subst h1
            simp
            have hl2 : rest.length + 1 ≤ 9000 := by simpa using hl
            refine ⟨i62_of (by omega) (by omega), i62_of (by omega) (by omega), by rw [rng_len]; omega, ?_⟩
            rw [rng_eq]
            refine lcGo_all (fun i : Nat => PyData.int (1 + (i : Int))) (fun i => [.pub (.tuple (l.map .int)), .pub (.tuple (r.map .int)), .pub (.tuple (PyData.tuple (r.map .int) :: rest.map tupI)), .emp, .pub (.int (1 + (i : Int)))]) (fun i => .bool (arisB (rest.getD i []) ((r :: rest).getD i []))) _ ?_ ?_ ?_
            · intro i _ k h; simpa using h
            · intro i hi k h
              rw [List.mem_range] at hi
              have hA : atI (PyData.tuple (r.map PyData.int) :: rest.map tupI) (1 + (i : Int)) = some (.tuple ((rest.getD i []).map .int)) := by
                have := at_rows (rows := r :: rest) (j := i + 1) (by simpa using hi)
                rwa [show (((i + 1 : Nat)) : Int) = 1 + (i : Int) by omega] at this
              have hB : atI (PyData.tuple (r.map PyData.int) :: rest.map tupI) (1 + (i : Int) - 1) = some (.tuple (((r :: rest).getD i []).map .int)) := by
                have := at_rows (rows := r :: rest) (j := i) (by simp; omega)
                rwa [show (((i : Nat)) : Int) = 1 + (i : Int) - 1 by omega] at this
              have hb : (r :: rest).getD i [] ∈ r :: rest := by
                rw [List.getD_eq_getElem?_getD, List.getElem?_eq_getElem (show i < (r :: rest).length by simp; omega)]
                exact List.getElem_mem _
              generalize (r :: rest).getD i [] = be at *
              generalize rest.getD i [] = ro at *
              obtain ⟨b1, b2, b3⟩ := hrs be hb
              simp only [xCall_s, aC_s, xP_s, x2_s, xV_s, List.getElem?_cons_succ, List.getElem?_cons_zero, varK_pub, rd_pub, withD_some, oIx_t, hA, pubK_pub, xC_s, oSub_i, hB, aN_s]
              refine ⟨rfl, ro, be, rfl, b3, fun e => by rw [e] at b2; simp at b2, ?_⟩
              exact h
            · have hb2 := boolsOf_map ((List.range rest.length).map fun i => arisB (rest.getD i []) ((r :: rest).getD i []))
              rw [List.map_map] at hb2
              simp only [Function.comp_def] at hb2
              rw [hb2]
              simp only [withD_some]
              cases hA : ((List.range rest.length).map fun i => arisB (rest.getD i []) ((r :: rest).getD i [])).all id with
              | true =>
                refine q1 (pathD_rows.mpr ⟨rfl, hlast, fun i hi => ?_⟩)
                rw [List.all_eq_true] at hA
                exact hA _ (List.mem_map.mpr ⟨i, List.mem_range.mpr hi, rfl⟩)
              | false =>
                refine q2 fun h => ?_
                have h := (pathD_rows.mp h).2.2
                rw [Bool.eq_false_iff] at hA
                refine hA ?_
                rw [List.all_eq_true]
                intro b hb
                obtain ⟨i, hi, rfl⟩ := List.mem_map.mp hb
                exact h i (List.mem_range.mp hi)
          · simp [h1]
            exact q2 (fun h => h1 (by
              have := (pathD_rows.mp h).2.1
              rw [hlast] at this
              exact Option.some.inj this))
        · simp [h0]
          exact q2 (fun h => h0 (pathD_rows.mp h).1)
    · have ha : (ds.map fun x => decide (RowD x)).all id = false := by
        rw [Bool.eq_false_iff]
        intro h
        rw [List.all_eq_true] at h
        refine hall fun d hd => ?_
        have := h _ (List.mem_map.mpr ⟨d, hd, rfl⟩)
        simpa using this
      simp only [withD_some]
      rw [ha]
      simp
      refine q2 fun ⟨es, h1, h2⟩ => hall ?_
      injection h1 with h1
      subst h1
      intro d hd
      rcases List.mem_cons.mp hd with rfl | hd
      · exact hO
      · exact chain_rows es other one hO h2 d hd
  | _ =>
    simp [isTupD]
    exact q2 (fun ⟨row, h, _⟩ => nomatch h)
end LW

namespace LW
open PySem PySem.Spec L2 KX DX MX
open PyProof.Rows hiding St
def W0 (e : PyData) : Prop := FineQ e 4 60000 ∧ smallT e ∧ OkS e
def Vx (d : PyData) : Prop := (∃ ds, d = .tuple ds ∧ ds.length ≤ 100 ∧ ∀ e ∈ ds, W0 e) ∨ ((∀ ds, d ≠ .tuple ds) ∧ FineQ d 5 7000000)
/-- the rows of a path -/
def RowsP (rows : List (List Int)) : Prop := rows ≠ [] ∧ rows.length ≤ 45 ∧ ∀ r ∈ rows, RowOk r ∧ r ≠ [] ∧ r.length ≤ 9
def S_law_drawn : DF := fun as k => ∃ (other : List Int) (t : Nat), as = [.sup, .pub (tupI other), .pub (.int (t : Int))] ∧ other.length ≤ 9 ∧ other ≠ [] ∧ t ≤ 40 ∧ ∀ (rest : List (List Int)) (one : List Int), rest.length ≤ t → chain other (rest.map tupI) one → (other :: rest).getLast? = some one → k (.pub (.tuple ((other :: rest).map tupI)))
def S_law_values : DF := fun as k => ∃ rows : List (List Int), as = [.sup, .pub (.tuple (rows.map tupI))] ∧ RowsP rows ∧ ∀ ds : List PyData, ds.length ≤ 30 → (∀ d ∈ ds, Vx d) → k (.own ds)
def S_law_due : DF := fun as k => ∃ (one other : List Int) (d : PyData), as = [.pub (tupI one), .pub (tupI other), .pub d] ∧ RowD (tupI one) ∧ RowD (tupI other) ∧ Vx d ∧ (PathD one other d → k (.pub (.bool true))) ∧ (¬ PathD one other d → k (.pub (.bool false)))
end LW

namespace LW
open PySem PySem.Spec L2 KX DX MX
open PyProof.Rows hiding St
abbrev w_law_drawn : DS := (sSeq (sAsg (xLst (aC (xP (xV 1)) aN)) (gN 3))
  (sSeq (sFor (iR1 (aC (xV 2) aN)) (gN 4)
  (sSeq (sAsg (xCall S_law_lessened (aC (xP (xV 0)) (aC (xP (x2 oIx (xV 3) (x1 oNeg (xC (.int 1))))) (aC (xP (xC (.int 1))) aN)))) (gN 5))
  (sIf (tV (x2 oNe (xV 5) (x2 oIx (xV 3) (x1 oNeg (xC (.int 1))))))
  (sExp (lAppend 3 (xV 5)))
  sNx)))
  (sRet (x1 fTuple (xV 3)))))
abbrev w_law_values : DS := (sSeq (sAsg (xCall S_law_deal (aC (xP (xV 0)) (aC (xP (x1 fLen (xV 1))) aN))) (gN 2))
  (sSeq (sAsg (x2 oIx (xLst (aC (xP (xC .none)) (aC (xP (xTup aN)) (aC (xP (xLst aN)) (aC (xP xDict0) (aC (xP (xC (.int 0))) (aC (xP (xC (.str "row"))) (aC (xP (xC (.bool true))) (aC (xP (xTup (aC (xP (xC (.int 1))) aN))) (aC (xP (xV 1)) aN)))))))))) (xCall S_law_deal (aC (xP (xV 0)) (aC (xP (xC (.int 9))) aN)))) (gN 3))
  (sSeq (sAsg (x1 fTuple (xPs [] (xLc [5] (iX (x2 oIx (xV 1) (xV 2))) (gN 5) tYes' (x2 oIx (xLst (aC (xP (xV 5)) (aC (xP (x2 oEq (xV 5) (xC (.int 1)))) aN))) (x1 fInt (x2 oLt (xV 5) (xC (.int 2)))))))) (gN 4))
  (sSeq (sAsg (xLst (aC (xP (xV 1)) (aC (xP (xRvT (xV 1) (pS (x1 oNeg (xC (.int 1)))))) (aC (xP (x2 oAdd (xSl (xV 1) pN (pS (xV 2))) (xSl (xV 1) (pS (x2 oAdd (xV 2) (xC (.int 1)))) pN))) (aC (xP (x2 oAdd (xSl (xV 1) pN (pS (x2 oAdd (xV 2) (xC (.int 1))))) (xSl (xV 1) (pS (xV 2)) pN))) (aC (xP (x1 fList (xV 1))) (aC (xP (xV 3)) (aC (xP (xTup (aC (xP (xV 1)) aN))) aN)))))))) (gN 6))
  (sSeq (sFor (iX (xLst (aC (xP (xV 3)) (aC (xP (xV 4)) (aC (xP (x1 fList (x2 oIx (xV 1) (xV 2)))) (aC (xP (xRvT (x2 oIx (xV 1) (xV 2)) (pS (x1 oNeg (xC (.int 1)))))) (aC (xP (xSl (x2 oIx (xV 1) (xV 2)) pN (pS (x1 oNeg (xC (.int 1)))))) (aC (xP (x2 oAdd (x2 oIx (xV 1) (xV 2)) (xSl (x2 oIx (xV 1) (xV 2)) pN (pS (xC (.int 1)))))) aN)))))))) (gN 7)
  (sExp (lAppend 6 (x2 oAdd (x2 oAdd (xSl (xV 1) pN (pS (xV 2))) (xTup (aC (xP (xV 7)) aN))) (xSl (xV 1) (pS (x2 oAdd (xV 2) (xC (.int 1)))) pN)))))
  (sRet (x2 oAdd (xV 6) (xLst (aC (xP (x2 oAdd (x2 oAdd (xV 1) (xSl (xV 1) (pS (x1 oNeg (xC (.int 2)))) (pS (x1 oNeg (xC (.int 1)))))) (xSl (xV 1) (pS (x1 oNeg (xC (.int 1)))) pN))) (aC (xP (x2 oAdd (xSl (xV 1) pN (pS (xC (.int 1)))) (xV 1))) (aC (xP (x2 oAdd (xSl (xV 1) pN (pS (xC (.int 1)))) (xSl (xV 1) (pS (x1 oNeg (xC (.int 1)))) pN))) aN)))))))))))
abbrev w_law_due : DS := (sSeq (sIf (tOr' (tNot' (tV (x1 (fIsi isTupD) (xV 2)))) (tOr' (tV (x2 oEqT0 (xV 2) (xTup aN))) (tOr' (tV (x2 oNe (x1 fRepr (x2 oIx (xV 2) (xC (.int 0)))) (x1 fRepr (xV 1)))) (tV (x2 oNe (x1 fRepr (x2 oIx (xV 2) (x1 oNeg (xC (.int 1))))) (x1 fRepr (xV 0)))))))
  (sRet (xC (.bool false)))
  sNx)
  (sSeq (sFor (iZ (xV 2) (xSl (xV 2) (pS (xC (.int 1))) pN)) (gT [(gN 3), (gN 4)])
  (sSeq (sAsg (xLst aN) (gN 5))
  (sSeq (sFor (iR1 (aC (x2 oSub (x1 fLen (xV 3)) (xC (.int 1))) aN)) (gN 6)
  (sIf (tV (x2 oGt (x2 oIx (xV 3) (xV 6)) (x2 oIx (xV 3) (x2 oAdd (xV 6) (xC (.int 1))))))
  (sExp (lAppend 5 (x1 fRepr (x2 oAdd (x2 oAdd (xSl (xV 3) pN (pS (xV 6))) (xTup (aC (xP (x2 oIx (xV 3) (x2 oAdd (xV 6) (xC (.int 1))))) (aC (xP (x2 oIx (xV 3) (xV 6))) aN)))) (xSl (xV 3) (pS (x2 oAdd (xV 6) (xC (.int 2)))) pN)))))
  sNx))
  (sIf (tV (x2 oNotInD (x1 fRepr (xV 4)) (xV 5)))
  (sRet (xC (.bool false)))
  sNx))))
  (sRet (xC (.bool true)))))
abbrev wlaw : DS := (sSeq (sFor (iR1 (aC (xC (.int 5)) aN)) (gN 2)
  (sSeq (sAsg (xCall S_law_row (aC (xP (xV 1)) (aC (xP (xC (.int 9))) aN))) (gN 3))
  (sSeq (sIf (tV (x2 oEq (xV 2) (xC (.int 0))))
  (sAsg (xRvT (xTR1 (x1 fLen (xV 3))) (pS (x1 oNeg (xC (.int 1))))) (gN 3))
  sNx)
  (sSeq (sAsg (xCall S_law_drawn (aC (xP (xV 1)) (aC (xP (xV 3)) (aC (xP (xCall S_law_deal (aC (xP (xV 1)) (aC (xP (xC (.int 40))) aN)))) aN)))) (gN 4))
  (sSeq (sAsg (x2 oIx (xV 4) (x1 oNeg (xC (.int 1)))) (gN 5))
  (sSeq (sAsg (xLst (aC (xP (xV 4)) (aC (xP (xCall Sexchange_path (aC (xP (xV 5)) (aC (xP (xV 3)) aN)))) aN))) (gN 6))
  (sSeq (sIf (tV (x2 oIsNotB (xCall Sexchange_path_holds (aC (xP (xV 5)) (aC (xP (xV 3)) (aC (xP (x2 oIx (xV 6) (xC (.int 1)))) aN)))) (xC (.bool true))))
  (sRet (xC (.bool false)))
  sNx)
  (sSeq (sFor (iX (x2 oAdd (xCall S_law_values (aC (xP (xV 1)) (aC (xP (x2 oIx (xV 6) (xC (.int 0)))) aN))) (xCall S_law_values (aC (xP (xV 1)) (aC (xP (x2 oIx (xV 6) (xC (.int 1)))) aN))))) (gN 7)
  (sSeq (sAsg (x1 fRepr (xV 7)) (gN 8))
  (sSeq (sAsg (xCall Sexchange_path_holds (aC (xP (xV 5)) (aC (xP (xV 3)) (aC (xP (xV 7)) aN)))) (gN 9))
  (sIf (tOr' (tNot' (tV (x1 (fIsi isBoolD) (xV 9)))) (tOr' (tV (x2 oNe (xV 9) (xCall S_law_due (aC (xP (xV 5)) (aC (xP (xV 3)) (aC (xP (xV 7)) aN)))))) (tV (x2 oNe (x1 fRepr (xV 7)) (xV 8)))))
  (sRet (xC (.bool false)))
  sNx))))
  (sIf (tAnd' (tV (x2 oNe (xV 5) (xV 3))) (tV (x2 oIsNotB (xCall Sexchange_path_holds (aC (xP (xV 3)) (aC (xP (xV 5)) (aC (xP (xRvT (xV 4) (pS (x1 oNeg (xC (.int 1)))))) aN)))) (xC (.bool false)))))
  (sRet (xC (.bool false)))
  sNx)))))))))
  (sRet (xC (.bool true))))
end LW

namespace LW
open PySem PySem.Spec L2 KX DX MX
open PyProof.Rows hiding St
theorem len__law_drawn : ∀ as k, S_law_drawn as k → as.length = 3 := by rintro _ k ⟨d, t, rfl, _⟩; rfl
theorem len__law_values : ∀ as k, S_law_values as k → as.length = 2 := by rintro _ k ⟨d, rfl, _⟩; rfl
theorem len__law_due : ∀ as k, S_law_due as k → as.length = 3 := by rintro _ k ⟨d, e, f, rfl, _⟩; rfl
theorem dd__law_drawn : ∀ as k, S_law_drawn as k → w_law_drawn { nx := fun _ => k (.pub .none), rt := k } (as ++ List.replicate (6 - as.length) .emp) := by
  rintro _ k ⟨other, t, rfl, hl, hne, ht, q⟩
  simp [tupI]
  refine ⟨i62_of (by omega) (by omega), ?_⟩
  refine forGo_rng0 (fun n δ => ∃ (rest : List (List Int)) (one : List Int) (x y : Sl), δ = [.sup, .pub (.tuple (other.map .int)), .pub (.int (t : Int)), .own ((other :: rest).map tupI), x, y] ∧ rest.length ≤ n ∧ chain other (rest.map tupI) one ∧ (other :: rest).getLast? = some one) t ?_ ?_ _ ⟨[], other, _, _, rfl, Nat.le_refl _, rfl, rfl⟩
  · rintro i δ N hi hN ⟨rest, one, x, y, rfl, hrl, hc, hlast⟩
    have hat : atI ((other :: rest).map tupI) (-1) = some (tupI one) := by
      refine atI_neg1 ?_
      rw [List.getLast?_map, hlast]; rfl
    have hp := (chain_perm _ _ _ hc).1
    have hpl := hp.length_eq
    simp only [tupI] at hat
    generalize hG : (other :: rest).map tupI = G at *
    have hG2 : (other :: rest).map (fun r => PyData.tuple (r.map .int)) = G := hG
    simp [hG, hG2, hat]
    refine ⟨one, 1, rfl, by omega, fun e => hne (List.eq_nil_of_length_eq_zero (by rw [← hpl, e]; rfl)), by omega, fun rs l hrs hcl => ?_⟩
    simp [hat, tupI]
    have hGl : G.length ≤ 45 := by rw [← hG]; simp; omega
    by_cases hlo : l = one
    · subst hlo
      simp
      exact hN _ ⟨rest, l, _, _, by rw [hG], by omega, hc, hlast⟩
    · simp [hlo]
      refine ⟨by omega, ?_⟩
      cases rs with
      | nil => exact absurd (show one = l from hcl).symm hlo
      | cons e rs =>
        cases rs with
        | cons f rs => simp at hrs
        | nil =>
          obtain ⟨p, h1, h2, h3, h4⟩ := hcl
          have h4 : swapAt one p = l := h4
          subst h4
          refine hN _ ⟨rest ++ [swapAt one p], swapAt one p, _, _, by rw [← hG]; simp [tupI]; exact ⟨rfl, rfl⟩, by simp; omega, by rw [List.map_append]; exact chain_add _ _ _ _ hc h1 h2, ?_⟩
          rw [← List.cons_append, List.getLast?_append]
          simp
  · rintro δ ⟨rest, one, x, y, rfl, hrl, hc, hlast⟩
    have := q rest one hrl hc hlast
    simpa [tupI] using this
theorem vx_fine {d : PyData} (h : Vx d) : FineQ d 5 7000000 := by
  rcases h with ⟨ds, rfl, h1, h2⟩ | ⟨_, h⟩
  · refine (FineQ.tup (dep := 4) (B := 60000) fun e he => (h2 e he).1).mono (Nat.le_refl _) ?_
    show ds.length * (60000 + 2) + 3 ≤ 7000000
    omega
  · exact h
abbrev bodyDue : DS := (sSeq (sAsg (xLst aN) (gN 5))
  (sSeq (sFor (iR1 (aC (x2 oSub (x1 fLen (xV 3)) (xC (.int 1))) aN)) (gN 6)
  (sIf (tV (x2 oGt (x2 oIx (xV 3) (xV 6)) (x2 oIx (xV 3) (x2 oAdd (xV 6) (xC (.int 1))))))
  (sExp (lAppend 5 (x1 fRepr (x2 oAdd (x2 oAdd (xSl (xV 3) pN (pS (xV 6))) (xTup (aC (xP (x2 oIx (xV 3) (x2 oAdd (xV 6) (xC (.int 1))))) (aC (xP (x2 oIx (xV 3) (xV 6))) aN)))) (xSl (xV 3) (pS (x2 oAdd (xV 6) (xC (.int 2)))) pN)))))
  sNx))
  (sIf (tV (x2 oNotInD (x1 fRepr (xV 4)) (xV 5)))
  (sRet (xC (.bool false)))
  sNx)))
theorem chain_last : ∀ (es : List PyData) (r one : List Int), chain r es one → (tupI r :: es).getLast? = some (tupI one)
  | [], r, one, h => by
    have h : r = one := h
    subst h; rfl
  | e :: es, r, one, h => by
    obtain ⟨p, h1, h2, h3, h4⟩ := h
    rw [List.getLast?_cons_cons, h3]
    exact chain_last es _ one h4
theorem okS_row (r : List Int) : OkS (.tuple (r.map .int)) := okS_tup fun d hd => by
  obtain ⟨z, _, rfl⟩ := List.mem_map.mp hd
  exact okS_int z
theorem due_loop {one : List Int} {k : Sl → Prop} (a b c : PyData) : ∀ (es : List PyData) (r : List Int) (x y z w : Sl), RowD (tupI r) → (∀ e ∈ es, W0 e) → (tupI r :: es).getLast? = some (tupI one) → (chain r es one → k (.pub (.bool true))) → (¬ chain r es one → k (.pub (.bool false))) → forGo (gT [gN 3, gN 4]) bodyDue { nx := sRet (xC (.bool true)) { nx := fun _ => k (.pub .none), rt := k }, rt := k } (zipD (tupI r :: es) es) [.pub a, .pub b, .pub c, x, y, z, w]
  | [], r, x, y, z, w, hR, hw, hl, q1, q2 => by
    have : r = one := tupI_inj.mp (Option.some.inj hl)
    have h := q1 this
    show forGo _ _ _ [] _
    unfold forGo
    simpa using h
  | e :: es, r, x, y, z, w, hR, hw, hl, q1, q2 => by
    have e1 : zipD (tupI r :: e :: es) (e :: es) = .tuple [tupI r, e] :: zipD (e :: es) es := rfl
    rw [e1]
    unfold forGo
    obtain ⟨r', hr', hR', hr1, hr2⟩ := id hR
    have hr' := tupI_inj.mp hr'
    subst hr'
    simp [tupI]
    refine ⟨i62_of (by omega) (by omega), ?_⟩
    refine forGo_rng0 (fun i δ => ∃ u : Sl, δ = [.pub a, .pub b, .pub c, .pub (.tuple (r.map .int)), .pub e, .own (((List.range i).filter fun p => decide (r.getD (p + 1) 0 < r.getD p 0)).map fun p => .str (tupI (swapAt r p)).shown), u]) (r.length - 1) ?_ ?_ _ ⟨w, rfl⟩
    · rintro i δ N hi hN ⟨u, rfl⟩
      have hb1 : i + 1 < r.length := by omega
      have hf : ((List.range (i + 1)).filter fun p => decide (r.getD (p + 1) 0 < r.getD p 0)) = (List.range i).filter (fun p => decide (r.getD (p + 1) 0 < r.getD p 0)) ++ (if r.getD (i + 1) 0 < r.getD i 0 then [i] else []) := by
        rw [List.range_succ, List.filter_append]
        congr 1
        by_cases h : r.getD (i + 1) 0 < r.getD i 0
        · rw [if_pos h, List.filter_cons_of_pos (by simpa using h)]; rfl
        · rw [if_neg h, List.filter_cons_of_neg (by simpa using h)]; rfl
      have hlen : ((List.range i).filter fun p => decide (r.getD (p + 1) 0 < r.getD p 0)).length ≤ 24 := by
        refine Nat.le_trans (List.length_filter_le _ _) ?_
        rw [List.length_range]; omega
      simp only [hf] at hN
      generalize ((List.range i).filter fun p => decide (r.getD (p + 1) 0 < r.getD p 0)) = gs at *
      simp [at_p (show i < r.length by omega), at_p1 hb1]
      refine cnd_of (fun h => ?_) (fun h => ?_)
      · have h : r.getD (i + 1) 0 < r.getD i 0 := by simpa using h
        simp only [if_pos h] at hN
        simp [at_p (show i < r.length by omega), at_p1 hb1, cutD_to, cut_p2]
        refine ⟨by omega, by omega, ?_⟩
        rw [swap_nf]
        have hp := swapAt_permW hb1 h
        refine DX.FineQ.repr (d := tupI (swapAt r i)) (FineQ.ints (by rw [hp.length_eq]; omega) fun k hk => by
          have := hR'.key k (hp.mem_iff.mp hk); omega) (by decide) (by decide) ?_
        simp
        refine ⟨by omega, ?_⟩
        exact hN _ ⟨.pub (.int (i : Int)), by simp⟩
      · have h : ¬ r.getD (i + 1) 0 < r.getD i 0 := by simpa using h
        simp only [if_neg h] at hN
        exact hN _ ⟨.pub (.int (i : Int)), by simp⟩
    · rintro δ ⟨u, rfl⟩
      obtain ⟨we1, we2, we3⟩ := hw e List.mem_cons_self
      simp
      refine DX.FineQ.repr we1 (by decide) (by decide) ?_
      simp
      have hgs : ∀ p ∈ (List.range (r.length - 1)).filter (fun p => decide (r.getD (p + 1) 0 < r.getD p 0)), p + 1 < r.length ∧ r.getD (p + 1) 0 < r.getD p 0 := fun p hp => by
        rw [List.mem_filter, List.mem_range, decide_eq_true_eq] at hp
        exact ⟨by omega, hp.2⟩
      have hgs2 : ∀ p, p + 1 < r.length → r.getD (p + 1) 0 < r.getD p 0 → p ∈ (List.range (r.length - 1)).filter (fun p => decide (r.getD (p + 1) 0 < r.getD p 0)) := fun p h1 h2 => by
        rw [List.mem_filter, List.mem_range, decide_eq_true_eq]
        exact ⟨by omega, h2⟩
      simp only [List.getD_eq_getElem?_getD] at hgs hgs2
      generalize (List.range (r.length - 1)).filter _ = gs at *
      have hks : ∀ p ∈ gs, RowOk (swapAt r p) := fun p hp => by
        have hpp := swapAt_permW (hgs p hp).1 (by simpa [List.getD_eq_getElem?_getD] using (hgs p hp).2)
        exact ⟨hpp.nodup_iff.mpr hR'.nd, fun k hk => hR'.key k (hpp.mem_iff.mp hk)⟩
      refine ⟨eqOk_str we3.strOk, (Lay.lstM (enc := fun p => PyData.str (PyData.tuple (List.map PyData.int (swapAt r p))).shown) fun p _ => Lay.str (okS_row (swapAt r p)).strOk).eqOk (by decide), ?_⟩
      have hin : inD (PyData.str e.shown) (gs.map fun p => PyData.str (PyData.tuple ((swapAt r p).map PyData.int)).shown) = gs.any fun p => decide ((PyData.tuple ((swapAt r p).map PyData.int)).shown = e.shown) := by
        unfold inD
        rw [List.any_map]
        congr 1
      rw [hin]
      cases hA : gs.any fun p => decide ((PyData.tuple ((swapAt r p).map PyData.int)).shown = e.shown) with
      | true =>
        obtain ⟨p, hp, h⟩ := List.any_eq_true.mp hA
        have h : (PyData.tuple ((swapAt r p).map PyData.int)).shown = e.shown := by simpa using h
        have he := shown_inj (fun z hz => ((hks p hp).key z hz).1) h.symm
        have he : e = tupI (swapAt r p) := he
        subst he
        obtain ⟨g1, g2⟩ := hgs p hp
        have g2' : r.getD (p + 1) 0 < r.getD p 0 := by simpa [List.getD_eq_getElem?_getD] using g2
        refine due_loop a b c es (swapAt r p) _ _ _ _ (rowD_swap hR g1 g2') (fun x hx => hw x (List.mem_cons_of_mem _ hx)) (by rw [List.getLast?_cons_cons] at hl; exact hl) (fun h => q1 ⟨p, g1, g2', rfl, h⟩) (fun h => q2 ?_)
        rintro ⟨p', _, _, h3, h4⟩
        exact h (by rw [tupI_inj.mp h3]; exact h4)
      | false =>
        refine q2 ?_
        rintro ⟨p, g1, g2, h3, h4⟩
        rw [List.any_eq_false] at hA
        refine hA p (hgs2 p g1 (by simpa [List.getD_eq_getElem?_getD] using g2)) ?_
        rw [h3]
        simp [tupI]
theorem dd__law_due : ∀ as k, S_law_due as k → w_law_due { nx := fun _ => k (.pub .none), rt := k } (as ++ List.replicate (7 - as.length) .emp) := by
  rintro _ k ⟨one, other, d, rfl, h1, h2, hv, q1, q2⟩
  cases d with
  | tuple ds =>
    obtain ⟨hl, hw⟩ : ds.length ≤ 100 ∧ ∀ e ∈ ds, W0 e := by
      rcases hv with ⟨es, he, h⟩ | ⟨h, _⟩
      · injection he with he
        subst he
        exact h
      · exact absurd rfl (h ds)
    cases ds with
    | nil =>
      simp [isTupD]
      exact q2 (fun ⟨es, h, _⟩ => by injection h with h; cases h)
    | cons e es =>
      obtain ⟨oth, ho, hoR, ho1, ho2⟩ := h2
      have ho := tupI_inj.mp ho
      subst ho
      obtain ⟨on, ho, hnR, hn1, hn2⟩ := h1
      have ho := tupI_inj.mp ho
      subst ho
      have hrow : ∀ {r : List Int}, RowOk r → r.length ≤ 24 → FineQ (tupI r) 1 1000 := fun hr hl => FineQ.ints (by omega) fun k hk => by
        have := hr.key k hk; omega
      have hat0 : atI (e :: es) 0 = some e := by
        have := atI_of (xs := e :: es) (j := 0) (by simp)
        simpa using this
      obtain ⟨l, hlast⟩ : ∃ l, (e :: es).getLast? = some l := ⟨(e :: es).getLast (by simp), List.getLast?_eq_some_getLast (by simp)⟩
      have hatl : atI (e :: es) (-1) = some l := atI_neg1 hlast
      simp [isTupD, hat0]
      refine DX.FineQ.repr (hw e List.mem_cons_self).1 (by decide) (by decide) ?_
      simp
      refine DX.FineQ.repr (hrow hoR ho2) (by decide) (by decide) ?_
      simp
      by_cases h0 : e.shown = (PyData.tuple (other.map .int)).shown
      · have he : e = tupI other := shown_inj (fun z hz => (hoR.key z hz).1) h0
        subst he
        have hatl2 : atI (PyData.tuple (other.map .int) :: es) (-1) = some l := hatl
        simp [tupI, hatl2]
        refine DX.FineQ.repr (hw l (List.mem_of_getLast? hlast)).1 (by decide) (by decide) ?_
        simp
        refine DX.FineQ.repr (hrow hnR hn2) (by decide) (by decide) ?_
        simp
        by_cases h1 : l.shown = (PyData.tuple (one.map .int)).shown
        · have he : l = tupI one := shown_inj (fun z hz => (hnR.key z hz).1) h1
          subst he
          simp
          have hcut : DX.cutD (PyData.tuple (other.map .int) :: es) (some 1) none = es := by
            unfold DX.cutD
            rw [show (some (1 : Int)) = some ((1 : Nat) : Int) from rfl, HT.sIx_none, HT.sIx_nat]
            simp
          rw [hcut]
          exact due_loop _ _ _ es other _ _ _ _ ⟨other, rfl, hoR, ho1, ho2⟩ (fun x hx => hw x (List.mem_cons_of_mem _ hx)) hlast (fun h => q1 ⟨es, rfl, h⟩) (fun h => q2 (by
            rintro ⟨ds, g1, g2⟩
            injection g1 with g1
            injection g1 with _ g1
            subst g1
            exact h g2))
        · rw [beq_eq_false_iff_ne.mpr h1]
          simp
          refine q2 ?_
          rintro ⟨ds, g1, g2⟩
          injection g1 with g1
          injection g1 with _ g1
          subst g1
          have := chain_last _ _ _ g2
          rw [hlast] at this
          injection this with this
          exact h1 (by rw [this]; rfl)
      · rw [beq_eq_false_iff_ne.mpr h0]
        simp
        refine q2 ?_
        rintro ⟨ds, g1, _⟩
        injection g1 with g1
        injection g1 with g1
        exact h0 (by rw [g1]; rfl)
  | _ =>
    simp [isTupD]
    exact q2 (fun ⟨row, h, _⟩ => nomatch h)
theorem cutD_mem {ds : List PyData} {lo hi : Option Int} {d : PyData} (h : d ∈ DX.cutD ds lo hi) : d ∈ ds := by
  unfold DX.cutD at h
  exact List.mem_of_mem_drop (List.mem_of_mem_take h)
theorem cutD_len (ds : List PyData) (lo hi : Option Int) : (DX.cutD ds lo hi).length ≤ ds.length := by
  unfold DX.cutD
  rw [List.length_take, List.length_drop]; omega
/-- small things -/
def I0 (e : PyData) : Prop := (∃ z : Int, e = .int z ∧ 0 ≤ z ∧ z ≤ 1000000000000) ∨ ∃ b, e = .bool b
theorem I0.fine {e : PyData} (h : I0 e) : FineQ e 0 14 := by
  rcases h with ⟨z, rfl, h1, h2⟩ | ⟨b, rfl⟩
  · exact FineQ.int (by omega)
  · exact fine_bool17 b
theorem I0.ok {e : PyData} (h : I0 e) : OkS e := by
  rcases h with ⟨z, rfl, h1, h2⟩ | ⟨b, rfl⟩
  · exact okS_int z
  · exact okS_bool b
theorem w0_tup {ds : List PyData} (hl : ds.length ≤ 30) (h : ∀ e ∈ ds, I0 e) : W0 (.tuple ds) := by
  refine ⟨(FineQ.tup (dep := 0) (B := 14) fun e he => (h e he).fine).mono (by omega) ?_, fun es he => ?_, okS_tup fun e he => (h e he).ok⟩
  · show ds.length * (14 + 2) + 3 ≤ 60000
    omega
  · injection he with he
    subst he; omega
theorem w0_lst {ds : List PyData} (hl : ds.length ≤ 30) (h : ∀ e ∈ ds, I0 e) : W0 (.list ds) := by
  refine ⟨(FineQ.lst (dep := 0) (B := 14) fun e he => (h e he).fine).mono (by omega) ?_, fun es he => (nomatch he), okS_lst fun e he => (h e he).ok⟩
  show ds.length * (14 + 2) + 3 ≤ 60000
  omega
theorem w0_dict : W0 (.dict []) := ⟨⟨rfl, by decide, by decide +kernel⟩, fun _ h => (nomatch h), fun c hc => by
  have : TL.tl (PyData.shown (.dict [])) = [123, 125] := by decide +kernel
  rw [this] at hc
  simp at hc; omega⟩
theorem w0_none : W0 .none := ⟨fine_none17.mono (by omega) (by omega), fun _ h => (nomatch h), okS_none⟩
theorem w0_text : W0 (.str (Str.ofString "row")) := ⟨⟨rfl, by decide, by decide +kernel⟩, fun _ h => (nomatch h), fun c hc => by
  have : TL.tl (PyData.shown (.str (Str.ofString "row"))) = [39, 114, 111, 119, 39] := by decide +kernel
  rw [this] at hc
  simp at hc; omega⟩
theorem w0_i {e : PyData} (h : I0 e) : W0 e := ⟨h.fine.mono (by omega) (by omega), fun _ he => (by
  rcases h with ⟨z, rfl, _⟩ | ⟨b, rfl⟩
  · cases he
  · cases he), h.ok⟩
/-- the rows of a path as data -/
structure Gd (G : List PyData) : Prop where
  len : G.length ≤ 45
  row : ∀ e ∈ G, ∃ r : List Int, e = tupI r ∧ RowOk r ∧ r ≠ [] ∧ r.length ≤ 9
theorem i0_row {r : List Int} (h : RowOk r) : ∀ e ∈ r.map PyData.int, I0 e := fun e he => by
  obtain ⟨z, hz, rfl⟩ := List.mem_map.mp he
  exact .inl ⟨z, rfl, h.key z hz⟩
theorem Gd.w0 {G : List PyData} (h : Gd G) : ∀ e ∈ G, W0 e := fun e he => by
  obtain ⟨r, rfl, h1, h2, h3⟩ := h.row e he
  exact w0_tup (by rw [List.length_map]; omega) (i0_row h1)
theorem Gd.fine {G : List PyData} (h : Gd G) : ∀ e ∈ G, FineQ e 1 1000 := fun e he => by
  obtain ⟨r, rfl, h1, h2, h3⟩ := h.row e he
  exact FineQ.ints (by omega) fun k hk => by have := h1.key k hk; omega
theorem Gd.path {G : List PyData} (h : Gd G) : W0 (.tuple G) := by
  refine ⟨(FineQ.tup (dep := 1) (B := 1000) h.fine).mono (by omega) ?_, fun es he => ?_, okS_tup fun e he => (h.w0 e he).2.2⟩
  · show G.length * (1000 + 2) + 3 ≤ 60000
    have := h.len; omega
  · injection he with he
    subst he
    have := h.len; omega
theorem Gd.list {G : List PyData} (h : Gd G) : Vx (.list G) := .inr ⟨fun _ e => (nomatch e), (FineQ.lst (dep := 1) (B := 1000) h.fine).mono (by omega) (by
  show G.length * (1000 + 2) + 3 ≤ 7000000
  have := h.len; omega)⟩
theorem vx_tup {ds : List PyData} (hl : ds.length ≤ 100) (h : ∀ e ∈ ds, W0 e) : Vx (.tuple ds) := .inl ⟨ds, rfl, hl, h⟩
theorem vx_w0 {d : PyData} (h : W0 d) (hn : ∀ ds, d ≠ .tuple ds) : Vx d := .inr ⟨hn, h.1.mono (by omega) (by omega)⟩
section
variable {δ : DEnv} {w wb : DE} {ws : DA} {d e z : PyData} {ds es : List PyData} {wl wh : DO} {lo hi : Option Int}
def PureO (δ : DEnv) (w : DO) (o : Option Int) : Prop := ∀ Q : Option Int → DEnv → Prop, Q o δ → w δ Q
theorem po_n : PureO δ pN none := fun Q q => q
theorem po_s {i : Int} (h : PureE δ w (.int i)) : PureO δ (pS w) (some i) := fun Q q => by
  rw [pS_s]
  exact h _ q
theorem pu_sl (h : PureE δ w (.tuple ds)) (h1 : PureO δ wl lo) (h2 : PureO δ wh hi) : PureE δ (xSl w wl wh) (.tuple (DX.cutD ds lo hi)) := fun Q q => by
  rw [xSl_s]
  exact h _ (h1 _ (h2 _ q))
theorem pu_rv (h : PureE δ w (.tuple ds)) (h1 : PureO δ wl (some (-1))) : PureE δ (xRvT w wl) (.tuple ds.reverse) := fun Q q => by
  rw [xRvT_s]
  exact h _ (h1 _ ⟨rfl, q⟩)
theorem pu_ls (h : PureE δ w (.tuple ds)) (hl : ds.length ≤ 10000) : PureE δ (xP (x1 fList w)) (.list ds) := fun Q q => by
  show x1 fList w δ _
  exact h _ ⟨.tuple ds, rfl, q⟩
theorem pu_consP (h : PureE δ (xP w) d) (hs : PureA δ ws ds) : PureA δ (aC (xP w) ws) (d :: ds) := fun Q q => h _ (hs _ q)
theorem pu_add (h : PureE δ w (.tuple ds)) (h2 : PureE δ wb (.tuple es)) (hl : ds.length + es.length ≤ 10000) : PureE δ (x2 oAdd w wb) (.tuple (ds ++ es)) := pu_2 h h2 fun k hk => ⟨hl, hk⟩
theorem pu_ix {i : Int} (h : PureE δ w (.tuple ds)) (h2 : PureE δ wb (.int i)) (ha : atI ds i = some d) : PureE δ (x2 oIx w wb) d := pu_2 h h2 fun k hk => by
  rw [oIx_t, ha]; exact hk
theorem pu_inc {i j : Int} (h : PureE δ w (.int i)) (h2 : PureE δ wb (.int j)) : PureE δ (x2 oAdd w wb) (.int (i + j)) := pu_2 h h2 fun k hk => hk
theorem pu_neg {i : Int} (h : PureE δ w (.int i)) : PureE δ (x1 oNeg w) (.int (-i)) := pu_1 h fun k hk => hk
end
/-- one value of the menu -/
theorem odd_at {r : Int} (h0 : 0 ≤ r) (h1 : r < 9) {G : List PyData} (hG : Gd G) : ∃ d, atI [PyData.none, .tuple [], .list [], .dict [], .int 0, .str (Str.ofString "row"), .bool true, .tuple [.int 1], .tuple G] r = some d ∧ W0 d ∧ Vx d := by
  have : r = 0 ∨ r = 1 ∨ r = 2 ∨ r = 3 ∨ r = 4 ∨ r = 5 ∨ r = 6 ∨ r = 7 ∨ r = 8 := by omega
  have v : ∀ {d}, W0 d → (∀ ds, d ≠ .tuple ds) → W0 d ∧ Vx d := fun h n => ⟨h, vx_w0 h n⟩
  have w1 : W0 (.int 0) := w0_i (.inl ⟨0, rfl, by omega, by omega⟩)
  rcases this with rfl | rfl | rfl | rfl | rfl | rfl | rfl | rfl | rfl
  · exact ⟨_, rfl, v w0_none nofun⟩
  · exact ⟨_, rfl, w0_tup (ds := []) (by simp) (fun _ h => nomatch h), vx_tup (by simp) (fun _ h => nomatch h)⟩
  · exact ⟨_, rfl, v (w0_lst (ds := []) (by simp) (fun _ h => nomatch h)) nofun⟩
  · exact ⟨_, rfl, v w0_dict nofun⟩
  · exact ⟨_, rfl, v w1 nofun⟩
  · exact ⟨_, rfl, v w0_text nofun⟩
  · exact ⟨_, rfl, v (w0_i (.inr ⟨true, rfl⟩)) nofun⟩
  · have w2 : I0 (.int 1) := .inl ⟨1, rfl, by omega, by omega⟩
    have : ∀ e ∈ [PyData.int 1], I0 e := fun e he => by rw [List.mem_singleton.mp he]; exact w2
    exact ⟨_, rfl, w0_tup (by simp) this, vx_tup (by simp) fun e he => w0_i (this e he)⟩
  · exact ⟨_, rfl, hG.path, vx_tup (by have := hG.len; omega) hG.w0⟩
theorem cut_last2 (G : List PyData) : (DX.cutD G (some (-2)) (some (-1))).length ≤ 2 := by
  unfold DX.cutD
  rw [List.length_take]
  refine Nat.le_trans (Nat.min_le_left _ _) ?_
  unfold HT.sIx
  simp
  omega
theorem dd__law_values : ∀ as k, S_law_values as k → w_law_values { nx := fun _ => k (.pub .none), rt := k } (as ++ List.replicate (8 - as.length) .emp) := by
  rintro _ k ⟨rows, rfl, ⟨hne, hl, hrs⟩, q⟩
  have hl1 : 1 ≤ rows.length := by
    rcases Nat.eq_zero_or_pos rows.length with e | e
    · exact absurd (List.eq_nil_of_length_eq_zero e) hne
    · exact e
  have hG : Gd (rows.map tupI) := ⟨by rw [List.length_map]; exact hl, fun e he => by
    obtain ⟨r, hr, rfl⟩ := List.mem_map.mp he
    exact ⟨r, rfl, hrs r hr⟩⟩
  have hGl : 1 ≤ (rows.map tupI).length := by rw [List.length_map]; exact hl1
  generalize rows.map tupI = G at *
  have hlen := hG.len
  simp only [List.length_cons, List.length_nil, List.replicate, List.cons_append, List.nil_append]
  simp only [gN_pub, gN_own, gT_s, gL_s, List.set_cons_succ, List.set_cons_zero, sSeq_s, sAsg_s, sIf_s, sRet_s, sNx_s, tV_s, tOr_s, tAnd_s, tNot_s, x1_s, x2_s, xCall_s, aC_s, aN_s, xP_s, xQ_s, xV_s, xC_s, xLst_s, xTup_s, pubs_pub', pubs_nil', List.getElem?_cons_succ, List.getElem?_cons_zero, varK_pub, varK_own, varK_sup, varK_supn, pubK_pub, pubK_own, pubK_sup, pubK_supn, rd_pub, rd_own, rd_var, rdV_own, rdV_pub, withD_some, withI_some, withB_some, withT_some, withL_s, List.all_cons, List.all_nil, okArg_pub, okArg_sup, oAdd_i, oSub_i, oMod_i, oEq_i, oNe_i, oLt_i, oGt_i, oLe_i, oGe_i, oIx_l, oIx_t, fLen_l, fLen_t, fTuple_l, fTuple_t, fList_l, fList_t, cnd_t, cnd_f, oNe_s, oEq_s, beq_self_eq_true, Bool.not_true, Bool.not_false, keepK_pub, keepK_own, keepK_sup, keepK_supn, noVar_pub, noVar_own, noVar_sup, noVar_supn, sPar_s, fInt_b, fInt_i, fMax2_i, oNe_l, oNe_t, List.map_cons, List.map_nil, gsl, gs, pbs, List.foldl_cons, List.foldl_nil, pb_s, pbV_own, pbV_pub, pbV_sup, pbV_emp, xPs_s, sFor_s, xLc_s, iX_s, withS_l, withS_t, iR1_s, oneI_s, hid_cons, hid_nil, hid1_pub, hid1_own, hid1_sup, hid1_supn, hid1_emp, wip, tYes_s, pubK_var, keepK_var, gN_var, retOf_var, retV_own, retV_pub, sExp_s, xIf_s, oNeg_i, oIs_n, oIsNot_n, xStp_s, xSl_s, pN_s, pS_s, slD_l, slD_t, iE_s, lAppend_s, withO_some, withP_pub, retOf_pub, retOf_own, oAdd_l, oAdd_t, oMul_i, oPow_i, fIsi_s, xAnd_s, xOr_s, xNot_s]
  refine ⟨rfl, (G.length : Int), rfl, by omega, by omega, fun s s0 s1 => ?_⟩
  obtain ⟨s, rfl⟩ := toN s0
  have hs : s < G.length := by omega
  simp only [gN_pub, gN_own, gT_s, gL_s, List.set_cons_succ, List.set_cons_zero, sSeq_s, sAsg_s, sIf_s, sRet_s, sNx_s, tV_s, tOr_s, tAnd_s, tNot_s, x1_s, x2_s, xCall_s, aC_s, aN_s, xP_s, xQ_s, xV_s, xC_s, xLst_s, xTup_s, pubs_pub', pubs_nil', List.getElem?_cons_succ, List.getElem?_cons_zero, varK_pub, varK_own, varK_sup, varK_supn, pubK_pub, pubK_own, pubK_sup, pubK_supn, rd_pub, rd_own, rd_var, rdV_own, rdV_pub, withD_some, withI_some, withB_some, withT_some, withL_s, List.all_cons, List.all_nil, okArg_pub, okArg_sup, oAdd_i, oSub_i, oMod_i, oEq_i, oNe_i, oLt_i, oGt_i, oLe_i, oGe_i, oIx_l, oIx_t, fLen_l, fLen_t, fTuple_l, fTuple_t, fList_l, fList_t, cnd_t, cnd_f, oNe_s, oEq_s, beq_self_eq_true, Bool.not_true, Bool.not_false, keepK_pub, keepK_own, keepK_sup, keepK_supn, noVar_pub, noVar_own, noVar_sup, noVar_supn, sPar_s, fInt_b, fInt_i, fMax2_i, oNe_l, oNe_t, List.map_cons, List.map_nil, gsl, gs, pbs, List.foldl_cons, List.foldl_nil, pb_s, pbV_own, pbV_pub, pbV_sup, pbV_emp, xPs_s, sFor_s, xLc_s, iX_s, withS_l, withS_t, iR1_s, oneI_s, hid_cons, hid_nil, hid1_pub, hid1_own, hid1_sup, hid1_supn, hid1_emp, wip, tYes_s, pubK_var, keepK_var, gN_var, retOf_var, retV_own, retV_pub, sExp_s, xIf_s, oNeg_i, oIs_n, oIsNot_n, xStp_s, xSl_s, pN_s, pS_s, slD_l, slD_t, iE_s, lAppend_s, withO_some, withP_pub, retOf_pub, retOf_own, oAdd_l, oAdd_t, oMul_i, oPow_i, fIsi_s, xAnd_s, xOr_s, xNot_s, xDict0_s]
  refine ⟨Nat.zero_le _, Nat.zero_le _, by simp, by simp, rfl, 9, rfl, by omega, by omega, fun r r0 r1 => ?_⟩
  obtain ⟨odd, hodd, ho1, ho2⟩ := odd_at r0 r1 hG
  obtain ⟨row, hrow, hR, hRne, hR9⟩ := hG.row G[s] (List.getElem_mem hs)
  have hat : atI G (s : Int) = some (.tuple (row.map .int)) := by rw [atI_of hs, hrow]; rfl
  simp only [gN_pub, gN_own, gT_s, gL_s, List.set_cons_succ, List.set_cons_zero, sSeq_s, sAsg_s, sIf_s, sRet_s, sNx_s, tV_s, tOr_s, tAnd_s, tNot_s, x1_s, x2_s, xCall_s, aC_s, aN_s, xP_s, xQ_s, xV_s, xC_s, xLst_s, xTup_s, pubs_pub', pubs_nil', List.getElem?_cons_succ, List.getElem?_cons_zero, varK_pub, varK_own, varK_sup, varK_supn, pubK_pub, pubK_own, pubK_sup, pubK_supn, rd_pub, rd_own, rd_var, rdV_own, rdV_pub, withD_some, withI_some, withB_some, withT_some, withL_s, List.all_cons, List.all_nil, okArg_pub, okArg_sup, oAdd_i, oSub_i, oMod_i, oEq_i, oNe_i, oLt_i, oGt_i, oLe_i, oGe_i, oIx_l, oIx_t, fLen_l, fLen_t, fTuple_l, fTuple_t, fList_l, fList_t, cnd_t, cnd_f, oNe_s, oEq_s, beq_self_eq_true, Bool.not_true, Bool.not_false, keepK_pub, keepK_own, keepK_sup, keepK_supn, noVar_pub, noVar_own, noVar_sup, noVar_supn, sPar_s, fInt_b, fInt_i, fMax2_i, oNe_l, oNe_t, List.map_cons, List.map_nil, gsl, gs, pbs, List.foldl_cons, List.foldl_nil, pb_s, pbV_own, pbV_pub, pbV_sup, pbV_emp, xPs_s, sFor_s, xLc_s, iX_s, withS_l, withS_t, iR1_s, oneI_s, hid_cons, hid_nil, hid1_pub, hid1_own, hid1_sup, hid1_supn, hid1_emp, wip, tYes_s, pubK_var, keepK_var, gN_var, retOf_var, retV_own, retV_pub, sExp_s, xIf_s, oNeg_i, oIs_n, oIsNot_n, xStp_s, xSl_s, pN_s, pS_s, slD_l, slD_t, iE_s, lAppend_s, withO_some, withP_pub, retOf_pub, retOf_own, oAdd_l, oAdd_t, oMul_i, oPow_i, fIsi_s, xAnd_s, xOr_s, xNot_s, hodd, hat]
  refine ⟨by rw [List.length_map]; omega, ?_⟩
  refine lcGo_all PyData.int (fun z => [.sup, .pub (.tuple G), .pub (.int (s : Int)), .pub odd, .emp, .pub (.int z), .emp, .emp]) (fun z => if z < 2 then .bool (z == 1) else .int z) row ?_ ?_ ?_
  · intro z _ k h; simpa using h
  · intro z _ k h
    have c0 : atI [PyData.int z, .bool (z == 1)] 0 = some (.int z) := rfl
    have c1 : atI [PyData.int z, .bool (z == 1)] 1 = some (.bool (z == 1)) := rfl
    by_cases h2 : z < 2
    · rw [if_pos h2] at h
      simp [h2, c1]
      exact h
    · rw [if_neg h2] at h
      simp [h2, c0]
      exact h
  have hF : ∀ e ∈ row.map (fun z => if z < 2 then PyData.bool (z == 1) else .int z), I0 e := fun e he => by
    obtain ⟨z, hz, rfl⟩ := List.mem_map.mp he
    split
    · exact .inr ⟨_, rfl⟩
    · exact .inl ⟨z, rfl, hR.key z hz⟩
  have hFl : (row.map (fun z => if z < 2 then PyData.bool (z == 1) else .int z)).length ≤ 9 := by rw [List.length_map]; exact hR9
  generalize row.map (fun z => if z < 2 then PyData.bool (z == 1) else .int z) = fl at *
  have hI := i0_row hR
  have hIl : (row.map PyData.int).length ≤ 9 := by rw [List.length_map]; exact hR9
  generalize row.map PyData.int = ri at *
  have hcl : ∀ lo hi, (DX.cutD G lo hi).length ≤ 45 := fun lo hi => Nat.le_trans (cutD_len _ _ _) hlen
  have hcm : ∀ lo hi, ∀ e ∈ DX.cutD G lo hi, W0 e := fun lo hi e he => hG.w0 e (cutD_mem he)
  have two : ∀ (a b : List PyData), a.length ≤ 45 → b.length ≤ 45 → (∀ e ∈ a, W0 e) → (∀ e ∈ b, W0 e) → Vx (.tuple (a ++ b)) := fun a b h1 h2 h3 h4 => vx_tup (by rw [List.length_append]; omega) fun e he => by
    rcases List.mem_append.mp he with h | h
    · exact h3 e h
    · exact h4 e h
  have c45 : ∀ {a b : Nat}, a ≤ 45 → b ≤ 45 → a + b ≤ 10000 := fun h1 h2 => by omega
  refine pu_lst (ds := [.tuple G, .tuple G.reverse, .tuple (DX.cutD G none (some (s : Int)) ++ DX.cutD G (some ((s : Int) + 1)) none), .tuple (DX.cutD G none (some ((s : Int) + 1)) ++ DX.cutD G (some (s : Int)) none), .list G, odd, .tuple [.tuple G]]) (pu_cons (pu_v rfl) (pu_cons (pu_rv (pu_v rfl) (po_s (pu_neg pu_c))) (pu_cons (pu_add (pu_sl (pu_v rfl) po_n (po_s (pu_v rfl))) (pu_sl (pu_v rfl) (po_s (pu_inc (pu_v rfl) pu_c)) po_n) (c45 (hcl _ _) (hcl _ _))) (pu_cons (pu_add (pu_sl (pu_v rfl) po_n (po_s (pu_inc (pu_v rfl) pu_c))) (pu_sl (pu_v rfl) (po_s (pu_v rfl)) po_n) (c45 (hcl _ _) (hcl _ _))) (pu_consP (pu_ls (pu_v rfl) (by omega)) (pu_cons (pu_v rfl) (pu_cons (pu_tup (pu_cons (pu_v rfl) pu_nil) (by simp)) pu_nil))))))) (by simp) ?_
  have hv1 : ∀ d ∈ [PyData.tuple G, .tuple G.reverse, .tuple (DX.cutD G none (some (s : Int)) ++ DX.cutD G (some ((s : Int) + 1)) none), .tuple (DX.cutD G none (some ((s : Int) + 1)) ++ DX.cutD G (some (s : Int)) none), .list G, odd, .tuple [.tuple G]], Vx d := by
    intro d hd
    simp only [List.mem_cons, List.not_mem_nil, or_false] at hd
    rcases hd with rfl | rfl | rfl | rfl | rfl | rfl | rfl
    · exact vx_tup (by omega) hG.w0
    · exact vx_tup (by rw [List.length_reverse]; omega) fun e he => hG.w0 e (List.mem_reverse.mp he)
    · exact two _ _ (hcl _ _) (hcl _ _) (hcm _ _) (hcm _ _)
    · exact two _ _ (hcl _ _) (hcl _ _) (hcm _ _) (hcm _ _)
    · exact hG.list
    · exact ho2
    · exact vx_tup (by simp) fun e he => by rw [List.mem_singleton.mp he]; exact hG.path
  have hl7 : [PyData.tuple G, .tuple G.reverse, .tuple (DX.cutD G none (some (s : Int)) ++ DX.cutD G (some ((s : Int) + 1)) none), .tuple (DX.cutD G none (some ((s : Int) + 1)) ++ DX.cutD G (some (s : Int)) none), .list G, odd, .tuple [.tuple G]].length = 7 := rfl
  generalize [PyData.tuple G, .tuple G.reverse, .tuple (DX.cutD G none (some (s : Int)) ++ DX.cutD G (some ((s : Int) + 1)) none), .tuple (DX.cutD G none (some ((s : Int) + 1)) ++ DX.cutD G (some (s : Int)) none), .list G, odd, .tuple [.tuple G]] = ds1 at *
  simp only [gN_own, List.set_cons_succ, List.set_cons_zero, sSeq_s]
  refine pu_for (ds := [odd, .tuple fl, .list ri, .tuple ri.reverse, .tuple (DX.cutD ri none (some (-1))), .tuple (ri ++ DX.cutD ri none (some 1))]) (pu_cons (pu_v rfl) (pu_cons (pu_v rfl) (pu_consP (pu_ls (pu_ix (pu_v rfl) (pu_v rfl) hat) (by omega)) (pu_cons (pu_rv (pu_ix (pu_v rfl) (pu_v rfl) hat) (po_s (pu_neg pu_c))) (pu_cons (pu_sl (pu_ix (pu_v rfl) (pu_v rfl) hat) po_n (po_s (pu_neg pu_c))) (pu_cons (pu_add (pu_ix (pu_v rfl) (pu_v rfl) hat) (pu_sl (pu_ix (pu_v rfl) (pu_v rfl) hat) po_n (po_s pu_c)) (by have := cutD_len ri none (some 1); omega)) pu_nil)))))) (by simp) ?_
  have hv2 : ∀ d ∈ [odd, .tuple fl, .list ri, .tuple ri.reverse, .tuple (DX.cutD ri none (some (-1))), .tuple (ri ++ DX.cutD ri none (some 1))], W0 d := by
    intro d hd
    simp only [List.mem_cons, List.not_mem_nil, or_false] at hd
    rcases hd with rfl | rfl | rfl | rfl | rfl | rfl
    · exact ho1
    · exact w0_tup (by omega) hF
    · exact w0_lst (by omega) hI
    · exact w0_tup (by rw [List.length_reverse]; omega) fun e he => hI e (List.mem_reverse.mp he)
    · exact w0_tup (by have := cutD_len ri none (some (-1)); omega) fun e he => hI e (cutD_mem he)
    · exact w0_tup (by have := cutD_len ri none (some 1); rw [List.length_append]; omega) fun e he => by
        rcases List.mem_append.mp he with h | h
        · exact hI e h
        · exact hI e (cutD_mem h)
  have hl6 : [odd, .tuple fl, .list ri, .tuple ri.reverse, .tuple (DX.cutD ri none (some (-1))), .tuple (ri ++ DX.cutD ri none (some 1))].length = 6 := rfl
  generalize [odd, .tuple fl, .list ri, .tuple ri.reverse, .tuple (DX.cutD ri none (some (-1))), .tuple (ri ++ DX.cutD ri none (some 1))] = ds2 at *
  have el : ds2 = ds2.map id := by rw [List.map_id]
  rw [el]
  refine forGo_inv id (fun xs δ => ∃ (acc : List PyData) (u : Sl), δ = [.sup, .pub (.tuple G), .pub (.int (s : Int)), .pub odd, .pub (.tuple fl), .emp, .own acc, u] ∧ acc.length + xs.length ≤ 13 ∧ (∀ d ∈ acc, Vx d) ∧ ∀ e ∈ xs, W0 e) ?_ ?_ _ _ ⟨ds1, _, rfl, by omega, hv1, hv2⟩
  · rintro e xs δ N hN ⟨acc, u, rfl, ha, hv, hx⟩
    rw [List.length_cons] at ha
    have e1 : (DX.cutD G none (some (s : Int))).length + [e].length ≤ 10000 := by have := hcl none (some (s : Int)); simp; omega
    have e2 : (DX.cutD G none (some (s : Int)) ++ [e]).length + (DX.cutD G (some ((s : Int) + 1)) none).length ≤ 10000 := by
      have := hcl none (some (s : Int)); have := hcl (some ((s : Int) + 1)) none; rw [List.length_append]; simp; omega
    have hP : PureE [.sup, .pub (.tuple G), .pub (.int (s : Int)), .pub odd, .pub (.tuple fl), .emp, .own acc, .pub e] (x2 oAdd (x2 oAdd (xSl (xV 1) pN (pS (xV 2))) (xTup (aC (xP (xV 7)) aN))) (xSl (xV 1) (pS (x2 oAdd (xV 2) (xC (.int 1)))) pN)) (.tuple ((DX.cutD G none (some (s : Int)) ++ [e]) ++ DX.cutD G (some ((s : Int) + 1)) none)) :=
      pu_add (pu_add (pu_sl (pu_v rfl) po_n (po_s (pu_v rfl))) (pu_tup (pu_cons (pu_v rfl) pu_nil) (by simp)) e1) (pu_sl (pu_v rfl) (po_s (pu_inc (pu_v rfl) pu_c)) po_n) e2
    simp only [id, gN_pub, List.set_cons_succ, List.set_cons_zero, sExp_s, lAppend_s, List.getElem?_cons_succ, List.getElem?_cons_zero, withO_some]
    refine hP _ ?_
    simp only [pubK_pub, withP_pub, List.getElem?_cons_succ, List.getElem?_cons_zero, withO_some, List.set_cons_succ, List.set_cons_zero]
    refine ⟨by omega, ?_⟩
    refine hN _ ⟨_, _, rfl, by rw [List.length_append]; simp; omega, fun d hd => ?_, fun e he => hx e (List.mem_cons_of_mem _ he)⟩
    rcases List.mem_append.mp hd with h | h
    · exact hv d h
    · rw [List.mem_singleton.mp h]
      refine vx_tup (by have := hcl none (some (s : Int)); have := hcl (some ((s : Int) + 1)) none; simp only [List.length_append, List.length_cons, List.length_nil]; omega) fun y hy => ?_
      rcases List.mem_append.mp hy with h | h
      · rcases List.mem_append.mp h with h | h
        · exact hcm _ _ y h
        · rw [List.mem_singleton.mp h]; exact hx e List.mem_cons_self
      · exact hcm _ _ y h
  · rintro δ ⟨acc, u, rfl, ha, hv, _⟩
    rw [List.length_nil] at ha
    simp only [sRet_s, x2_s, xV_s, List.getElem?_cons_succ, List.getElem?_cons_zero, varK_own]
    have h3 : (G ++ DX.cutD G (some (-2)) (some (-1))).length + (DX.cutD G (some (-1)) none).length ≤ 10000 := by
      have := hcl (some (-2)) (some (-1)); have := hcl (some (-1)) none; rw [List.length_append]; omega
    refine pu_lst (ds := [.tuple ((G ++ DX.cutD G (some (-2)) (some (-1))) ++ DX.cutD G (some (-1)) none), .tuple (DX.cutD G none (some 1) ++ G), .tuple (DX.cutD G none (some 1) ++ DX.cutD G (some (-1)) none)]) (pu_cons (pu_add (pu_add (pu_v rfl) (pu_sl (pu_v rfl) (po_s (pu_neg pu_c)) (po_s (pu_neg pu_c))) (c45 hlen (hcl _ _))) (pu_sl (pu_v rfl) (po_s (pu_neg pu_c)) po_n) h3) (pu_cons (pu_add (pu_sl (pu_v rfl) po_n (po_s pu_c)) (pu_v rfl) (c45 (hcl _ _) hlen)) (pu_cons (pu_add (pu_sl (pu_v rfl) po_n (po_s pu_c)) (pu_sl (pu_v rfl) (po_s (pu_neg pu_c)) po_n) (c45 (hcl _ _) (hcl _ _))) pu_nil))) (by simp) ?_
    have hv3 : ∀ d ∈ [PyData.tuple ((G ++ DX.cutD G (some (-2)) (some (-1))) ++ DX.cutD G (some (-1)) none), .tuple (DX.cutD G none (some 1) ++ G), .tuple (DX.cutD G none (some 1) ++ DX.cutD G (some (-1)) none)], Vx d := by
      intro d hd
      simp only [List.mem_cons, List.not_mem_nil, or_false] at hd
      rcases hd with rfl | rfl | rfl
      · refine vx_tup (by have h1 := hcl (some (-2)) (some (-1)); have h2 := hcl (some (-1)) none; have h4 : G.length ≤ 45 := hlen; have h5 := cut_last2 G; simp only [List.length_append]; omega) fun e he => ?_
        rcases List.mem_append.mp he with h | h
        · rcases List.mem_append.mp h with h | h
          · exact hG.w0 e h
          · exact hcm _ _ e h
        · exact hcm _ _ e h
      · exact two _ _ (hcl _ _) hlen (hcm _ _) hG.w0
      · exact two _ _ (hcl _ _) (hcl _ _) (hcm _ _) (hcm _ _)
    have hl3 : [PyData.tuple ((G ++ DX.cutD G (some (-2)) (some (-1))) ++ DX.cutD G (some (-1)) none), .tuple (DX.cutD G none (some 1) ++ G), .tuple (DX.cutD G none (some 1) ++ DX.cutD G (some (-1)) none)].length = 3 := rfl
    generalize [PyData.tuple ((G ++ DX.cutD G (some (-2)) (some (-1))) ++ DX.cutD G (some (-1)) none), .tuple (DX.cutD G none (some 1) ++ G), .tuple (DX.cutD G none (some 1) ++ DX.cutD G (some (-1)) none)] = ds3 at *
    simp only [gN_pub, gN_own, gT_s, gL_s, List.set_cons_succ, List.set_cons_zero, sSeq_s, sAsg_s, sIf_s, sRet_s, sNx_s, tV_s, tOr_s, tAnd_s, tNot_s, x1_s, x2_s, xCall_s, aC_s, aN_s, xP_s, xQ_s, xV_s, xC_s, xLst_s, xTup_s, pubs_pub', pubs_nil', List.getElem?_cons_succ, List.getElem?_cons_zero, varK_pub, varK_own, varK_sup, varK_supn, pubK_pub, pubK_own, pubK_sup, pubK_supn, rd_pub, rd_own, rd_var, rdV_own, rdV_pub, withD_some, withI_some, withB_some, withT_some, withL_s, List.all_cons, List.all_nil, okArg_pub, okArg_sup, oAdd_i, oSub_i, oMod_i, oEq_i, oNe_i, oLt_i, oGt_i, oLe_i, oGe_i, oIx_l, oIx_t, fLen_l, fLen_t, fTuple_l, fTuple_t, fList_l, fList_t, cnd_t, cnd_f, oNe_s, oEq_s, beq_self_eq_true, Bool.not_true, Bool.not_false, keepK_pub, keepK_own, keepK_sup, keepK_supn, noVar_pub, noVar_own, noVar_sup, noVar_supn, sPar_s, fInt_b, fInt_i, fMax2_i, oNe_l, oNe_t, List.map_cons, List.map_nil, gsl, gs, pbs, List.foldl_cons, List.foldl_nil, pb_s, pbV_own, pbV_pub, pbV_sup, pbV_emp, xPs_s, sFor_s, xLc_s, iX_s, withS_l, withS_t, iR1_s, oneI_s, hid_cons, hid_nil, hid1_pub, hid1_own, hid1_sup, hid1_supn, hid1_emp, wip, tYes_s, pubK_var, keepK_var, gN_var, retOf_var, retV_own, retV_pub, sExp_s, xIf_s, oNeg_i, oIs_n, oIsNot_n, xStp_s, xSl_s, pN_s, pS_s, slD_l, slD_t, iE_s, lAppend_s, withO_some, withP_pub, retOf_pub, retOf_own, oAdd_l, oAdd_t, oMul_i, oPow_i, fIsi_s, xAnd_s, xOr_s, xNot_s]
    refine ⟨by omega, ?_⟩
    refine q _ (by rw [List.length_append]; omega) fun d hd => ?_
    rcases List.mem_append.mp hd with h | h
    · exact hv d h
    · exact hv3 d h
end LW

namespace LW
open PySem PySem.Spec L2 KX DX MX
open PyProof.Rows hiding St
theorem invP_step (x : Int) (xs : List Int) : (invP (x :: xs)).length ≤ xs.length + (invP xs).length := by
  rw [invP, List.length_append, List.length_map]
  have := List.length_filter_le (fun z => decide (z < x)) xs
  omega
def tri : Nat → Nat
  | 0 => 0
  | n + 1 => n + tri n
theorem invP_tri : ∀ row : List Int, (invP row).length ≤ tri row.length
  | [] => Nat.le_refl _
  | x :: xs => Nat.le_trans (invP_step x xs) (Nat.add_le_add_left (invP_tri xs) _)
theorem tri_mono {n m : Nat} (h : n ≤ m) : tri n ≤ tri m := by
  induction h with
  | refl => exact Nat.le_refl _
  | step _ ih => exact Nat.le_trans ih (Nat.le_add_left _ _)
theorem invP_36 {row : List Int} (h : row.length ≤ 9) : (invP row).length ≤ 36 := Nat.le_trans (invP_tri row) (tri_mono h)
theorem chain_perms : ∀ (rest : List (List Int)) (r one : List Int), chain r (rest.map tupI) one → ∀ x ∈ rest, x.Perm r
  | [], _, _, _, _, h => nomatch h
  | e :: rest, r, one, h, x, hx => by
    obtain ⟨p, h1, h2, h3, h4⟩ := h
    have h3 := tupI_inj.mp h3
    have hp := swapAt_permW h1 h2
    rcases List.mem_cons.mp hx with rfl | hx
    · rw [h3]; exact hp
    · exact (chain_perms rest _ one h4 x hx).trans hp
theorem pathG_chain {one : List Int} : ∀ (k : Nat) (other : List Int), PG one other → (invP other).length ≤ k → ∃ rest, pathG one k other = other :: rest ∧ chain other (rest.map tupI) one ∧ rest.length ≤ k
  | k, other, h, hk => by
    cases hh : (goods one other).head? with
    | none =>
      have e := h.same.mp hh
      refine ⟨[], pathG_end hh k, e.symm, Nat.zero_le _⟩
    | some p =>
      obtain ⟨j, rfl, hm, g, hj, e⟩ := pathG_go h hh hk
      obtain ⟨rest, e2, hc, hl⟩ := pathG_chain j _ g hj
      obtain ⟨b1, b2⟩ := goods_mem.mp hm
      refine ⟨swapAt other p :: rest, by rw [e, e2], ⟨p, b1, good_desc b2, rfl, hc⟩, by simp; omega⟩
termination_by k => k
theorem rowsP_of {other one : List Int} {rest : List (List Int)} (hR : RowOk other) (hne : other ≠ []) (hl : other.length ≤ 9) (hc : chain other (rest.map tupI) one) (hr : rest.length ≤ 40) : RowsP (other :: rest) := by
  refine ⟨by simp, by simp; omega, fun r hr => ?_⟩
  have hp : r.Perm other := by
    rcases List.mem_cons.mp hr with rfl | hr
    · exact List.Perm.refl _
    · exact chain_perms rest other one hc r hr
  refine ⟨⟨hp.nodup_iff.mpr hR.nd, fun k hk => hR.key k (hp.mem_iff.mp hk)⟩, fun e => hne ?_, by rw [hp.length_eq]; exact hl⟩
  rw [e] at hp
  exact hp.nil_eq.symm
theorem small_P {rows : List (List Int)} (h : RowsP rows) : smallT (.tuple (rows.map tupI)) := fun ds hd => by
  injection hd with hd
  have := congrArg List.length hd
  rw [List.length_map] at this
  have := h.2.1
  omega
theorem small_R {rows : List (List Int)} (h : RowsP rows) {e : PyData} (he : e ∈ rows.map tupI) : smallT e := fun ds hd => by
  obtain ⟨r, hr, rfl⟩ := List.mem_map.mp he
  injection hd with hd
  have := congrArg List.length hd
  rw [List.length_map] at this
  have := (h.2.2 r hr).2.2
  omega
theorem vx_small {d : PyData} (h : Vx d) : smallT d := fun ds hd => by
  rcases h with ⟨es, rfl, h1, _⟩ | ⟨h, _⟩
  · injection hd with hd
    subst hd; omega
  · exact absurd hd (h ds)
theorem vx_small2 {d : PyData} (h : Vx d) : ∀ ds, d = .tuple ds → ∀ e ∈ ds, smallT e := fun ds hd e he => by
  rcases h with ⟨es, rfl, _, h2⟩ | ⟨h, _⟩
  · injection hd with hd
    subst hd
    exact (h2 e he).2.1
  · exact absurd hd (h ds)
abbrev bodyV : DS := (sSeq (sAsg (x1 fRepr (xV 7)) (gN 8))
  (sSeq (sAsg (xCall Sexchange_path_holds (aC (xP (xV 5)) (aC (xP (xV 3)) (aC (xP (xV 7)) aN)))) (gN 9))
  (sIf (tOr' (tNot' (tV (x1 (fIsi isBoolD) (xV 9)))) (tOr' (tV (x2 oNe (xV 9) (xCall S_law_due (aC (xP (xV 5)) (aC (xP (xV 3)) (aC (xP (xV 7)) aN)))))) (tV (x2 oNe (x1 fRepr (xV 7)) (xV 8)))))
  (sRet (xC (.bool false)))
  sNx)))
abbrev restLaw : DS := (sSeq (sAsg (xCall S_law_drawn (aC (xP (xV 1)) (aC (xP (xV 3)) (aC (xP (xCall S_law_deal (aC (xP (xV 1)) (aC (xP (xC (.int 40))) aN)))) aN)))) (gN 4))
  (sSeq (sAsg (x2 oIx (xV 4) (x1 oNeg (xC (.int 1)))) (gN 5))
  (sSeq (sAsg (xLst (aC (xP (xV 4)) (aC (xP (xCall Sexchange_path (aC (xP (xV 5)) (aC (xP (xV 3)) aN)))) aN))) (gN 6))
  (sSeq (sIf (tV (x2 oIsNotB (xCall Sexchange_path_holds (aC (xP (xV 5)) (aC (xP (xV 3)) (aC (xP (x2 oIx (xV 6) (xC (.int 1)))) aN)))) (xC (.bool true))))
  (sRet (xC (.bool false)))
  sNx)
  (sSeq (sFor (iX (x2 oAdd (xCall S_law_values (aC (xP (xV 1)) (aC (xP (x2 oIx (xV 6) (xC (.int 0)))) aN))) (xCall S_law_values (aC (xP (xV 1)) (aC (xP (x2 oIx (xV 6) (xC (.int 1)))) aN))))) (gN 7)
  (sSeq (sAsg (x1 fRepr (xV 7)) (gN 8))
  (sSeq (sAsg (xCall Sexchange_path_holds (aC (xP (xV 5)) (aC (xP (xV 3)) (aC (xP (xV 7)) aN)))) (gN 9))
  (sIf (tOr' (tNot' (tV (x1 (fIsi isBoolD) (xV 9)))) (tOr' (tV (x2 oNe (xV 9) (xCall S_law_due (aC (xP (xV 5)) (aC (xP (xV 3)) (aC (xP (xV 7)) aN)))))) (tV (x2 oNe (x1 fRepr (xV 7)) (xV 8)))))
  (sRet (xC (.bool false)))
  sNx))))
  (sIf (tAnd' (tV (x2 oNe (xV 5) (xV 3))) (tV (x2 oIsNotB (xCall Sexchange_path_holds (aC (xP (xV 3)) (aC (xP (xV 5)) (aC (xP (xRvT (xV 4) (pS (x1 oNeg (xC (.int 1)))))) aN)))) (xC (.bool false)))))
  (sRet (xC (.bool false)))
  sNx))))))
theorem law_rest (D : DEnds) (i : Int) (other : List Int) (hR : RowOk other) (hne : other ≠ []) (hl : other.length ≤ 9) (c d e f g h : Sl) (hN : ∀ a b c d e f g h, D.nx [.emp, .sup, a, b, c, d, e, f, g, h]) : restLaw D [.emp, .sup, .pub (.int i), .pub (tupI other), c, d, e, f, g, h] := by
  simp only [gN_pub, gN_own, gT_s, gL_s, List.set_cons_succ, List.set_cons_zero, sSeq_s, sAsg_s, sIf_s, sRet_s, sNx_s, tV_s, tOr_s, tAnd_s, tNot_s, x1_s, x2_s, xCall_s, aC_s, aN_s, xP_s, xQ_s, xV_s, xC_s, xLst_s, xTup_s, pubs_pub', pubs_nil', List.getElem?_cons_succ, List.getElem?_cons_zero, varK_pub, varK_own, varK_sup, varK_supn, pubK_pub, pubK_own, pubK_sup, pubK_supn, rd_pub, rd_own, rd_var, rdV_own, rdV_pub, withD_some, withI_some, withB_some, withT_some, withL_s, List.all_cons, List.all_nil, okArg_pub, okArg_sup, oAdd_i, oSub_i, oMod_i, oEq_i, oNe_i, oLt_i, oGt_i, oLe_i, oGe_i, oIx_l, oIx_t, fLen_l, fLen_t, fTuple_l, fTuple_t, fList_l, fList_t, cnd_t, cnd_f, oNe_s, oEq_s, beq_self_eq_true, Bool.not_true, Bool.not_false, keepK_pub, keepK_own, keepK_sup, keepK_supn, noVar_pub, noVar_own, noVar_sup, noVar_supn, sPar_s, fInt_b, fInt_i, fMax2_i, oNe_l, oNe_t, List.map_cons, List.map_nil, gsl, gs, pbs, List.foldl_cons, List.foldl_nil, pb_s, pbV_own, pbV_pub, pbV_sup, pbV_emp, xPs_s, sFor_s, xLc_s, iX_s, withS_l, withS_t, iR1_s, oneI_s, hid_cons, hid_nil, hid1_pub, hid1_own, hid1_sup, hid1_supn, hid1_emp, wip, tYes_s, pubK_var, keepK_var, gN_var, retOf_var, retV_own, retV_pub, sExp_s, xIf_s, oNeg_i, oIs_n, oIsNot_n, xStp_s, xSl_s, pN_s, pS_s, slD_l, slD_t, iE_s, lAppend_s, withO_some, withP_pub, retOf_pub, retOf_own, oAdd_l, oAdd_t, oMul_i, oPow_i, fIsi_s, xAnd_s, xOr_s, xNot_s]
  refine ⟨rfl, 40, rfl, by omega, by omega, fun t t0 t1 => ?_⟩
  obtain ⟨t, rfl⟩ := toN t0
  simp only [gN_pub, gN_own, gT_s, gL_s, List.set_cons_succ, List.set_cons_zero, sSeq_s, sAsg_s, sIf_s, sRet_s, sNx_s, tV_s, tOr_s, tAnd_s, tNot_s, x1_s, x2_s, xCall_s, aC_s, aN_s, xP_s, xQ_s, xV_s, xC_s, xLst_s, xTup_s, pubs_pub', pubs_nil', List.getElem?_cons_succ, List.getElem?_cons_zero, varK_pub, varK_own, varK_sup, varK_supn, pubK_pub, pubK_own, pubK_sup, pubK_supn, rd_pub, rd_own, rd_var, rdV_own, rdV_pub, withD_some, withI_some, withB_some, withT_some, withL_s, List.all_cons, List.all_nil, okArg_pub, okArg_sup, oAdd_i, oSub_i, oMod_i, oEq_i, oNe_i, oLt_i, oGt_i, oLe_i, oGe_i, oIx_l, oIx_t, fLen_l, fLen_t, fTuple_l, fTuple_t, fList_l, fList_t, cnd_t, cnd_f, oNe_s, oEq_s, beq_self_eq_true, Bool.not_true, Bool.not_false, keepK_pub, keepK_own, keepK_sup, keepK_supn, noVar_pub, noVar_own, noVar_sup, noVar_supn, sPar_s, fInt_b, fInt_i, fMax2_i, oNe_l, oNe_t, List.map_cons, List.map_nil, gsl, gs, pbs, List.foldl_cons, List.foldl_nil, pb_s, pbV_own, pbV_pub, pbV_sup, pbV_emp, xPs_s, sFor_s, xLc_s, iX_s, withS_l, withS_t, iR1_s, oneI_s, hid_cons, hid_nil, hid1_pub, hid1_own, hid1_sup, hid1_supn, hid1_emp, wip, tYes_s, pubK_var, keepK_var, gN_var, retOf_var, retV_own, retV_pub, sExp_s, xIf_s, oNeg_i, oIs_n, oIsNot_n, xStp_s, xSl_s, pN_s, pS_s, slD_l, slD_t, iE_s, lAppend_s, withO_some, withP_pub, retOf_pub, retOf_own, oAdd_l, oAdd_t, oMul_i, oPow_i, fIsi_s, xAnd_s, xOr_s, xNot_s]
  refine ⟨rfl, other, t, rfl, hl, hne, by omega, fun rest one hrl hc hlast => ?_⟩
  obtain ⟨hp, hw⟩ := chain_perm _ _ _ hc
  have hol := hp.length_eq
  have hnR : RowOk one := ⟨hp.nodup_iff.mpr hR.nd, fun k hk => hR.key k (hp.mem_iff.mp hk)⟩
  have hone : one ≠ [] := fun e => hne (by rw [e] at hp; exact hp.nil_eq.symm)
  have hl1 : 1 ≤ other.length := by
    rcases Nat.eq_zero_or_pos other.length with e | e
    · exact absurd (List.eq_nil_of_length_eq_zero e) hne
    · exact e
  have hPG : PG one other := ⟨hnR.nd, hp, hw⟩
  have hat : atI ((other :: rest).map tupI) (-1) = some (tupI one) := by
    refine atI_neg1 ?_
    rw [List.getLast?_map, hlast]; rfl
  have hRP := rowsP_of hR hne hl hc (by omega)
  have hPD : PathD one other (.tuple ((other :: rest).map tupI)) := ⟨_, rfl, hc⟩
  have hrev : PathD other one (.tuple ((other :: rest).map tupI).reverse) → one = other := fun ⟨es, _, h⟩ => by
    obtain ⟨_, h2⟩ := chain_perm _ _ _ h
    exact inv_inj hnR.nd hp hw h2
  obtain ⟨rest2, he2, hc2, hrl2⟩ := pathG_chain (invP other).length other hPG (Nat.le_refl _)
  have h36 := invP_36 hl
  have hRP2 := rowsP_of hR hne hl hc2 (by omega)
  have hPD2 : PathD one other (.tuple ((other :: rest2).map tupI)) := ⟨_, rfl, hc2⟩
  have hpO : pathO one other = other :: rest2 := he2
  generalize other :: rest = rows at *
  generalize other :: rest2 = rows2 at *
  simp only [gN_pub, gN_own, gT_s, gL_s, List.set_cons_succ, List.set_cons_zero, sSeq_s, sAsg_s, sIf_s, sRet_s, sNx_s, tV_s, tOr_s, tAnd_s, tNot_s, x1_s, x2_s, xCall_s, aC_s, aN_s, xP_s, xQ_s, xV_s, xC_s, xLst_s, xTup_s, pubs_pub', pubs_nil', List.getElem?_cons_succ, List.getElem?_cons_zero, varK_pub, varK_own, varK_sup, varK_supn, pubK_pub, pubK_own, pubK_sup, pubK_supn, rd_pub, rd_own, rd_var, rdV_own, rdV_pub, withD_some, withI_some, withB_some, withT_some, withL_s, List.all_cons, List.all_nil, okArg_pub, okArg_sup, oAdd_i, oSub_i, oMod_i, oEq_i, oNe_i, oLt_i, oGt_i, oLe_i, oGe_i, oIx_l, oIx_t, fLen_l, fLen_t, fTuple_l, fTuple_t, fList_l, fList_t, cnd_t, cnd_f, oNe_s, oEq_s, beq_self_eq_true, Bool.not_true, Bool.not_false, keepK_pub, keepK_own, keepK_sup, keepK_supn, noVar_pub, noVar_own, noVar_sup, noVar_supn, sPar_s, fInt_b, fInt_i, fMax2_i, oNe_l, oNe_t, List.map_cons, List.map_nil, gsl, gs, pbs, List.foldl_cons, List.foldl_nil, pb_s, pbV_own, pbV_pub, pbV_sup, pbV_emp, xPs_s, sFor_s, xLc_s, iX_s, withS_l, withS_t, iR1_s, oneI_s, hid_cons, hid_nil, hid1_pub, hid1_own, hid1_sup, hid1_supn, hid1_emp, wip, tYes_s, pubK_var, keepK_var, gN_var, retOf_var, retV_own, retV_pub, sExp_s, xIf_s, oNeg_i, oIs_n, oIsNot_n, xStp_s, xSl_s, pN_s, pS_s, slD_l, slD_t, iE_s, lAppend_s, withO_some, withP_pub, retOf_pub, retOf_own, oAdd_l, oAdd_t, oMul_i, oPow_i, fIsi_s, xAnd_s, xOr_s, xNot_s, hat]
  refine ⟨rfl, one, other, rfl, hnR.nd, hp, hone, by omega, ?_⟩
  rw [within_B.mpr hw, if_pos rfl, hpO]
  have i0 : atI [PyData.tuple (rows.map tupI), .tuple (rows2.map tupI)] 0 = some (.tuple (rows.map tupI)) := rfl
  have i1 : atI [PyData.tuple (rows.map tupI), .tuple (rows2.map tupI)] 1 = some (.tuple (rows2.map tupI)) := rfl
  simp only [gN_pub, gN_own, gT_s, gL_s, List.set_cons_succ, List.set_cons_zero, sSeq_s, sAsg_s, sIf_s, sRet_s, sNx_s, tV_s, tOr_s, tAnd_s, tNot_s, x1_s, x2_s, xCall_s, aC_s, aN_s, xP_s, xQ_s, xV_s, xC_s, xLst_s, xTup_s, pubs_pub', pubs_nil', List.getElem?_cons_succ, List.getElem?_cons_zero, varK_pub, varK_own, varK_sup, varK_supn, pubK_pub, pubK_own, pubK_sup, pubK_supn, rd_pub, rd_own, rd_var, rdV_own, rdV_pub, withD_some, withI_some, withB_some, withT_some, withL_s, List.all_cons, List.all_nil, okArg_pub, okArg_sup, oAdd_i, oSub_i, oMod_i, oEq_i, oNe_i, oLt_i, oGt_i, oLe_i, oGe_i, oIx_l, oIx_t, fLen_l, fLen_t, fTuple_l, fTuple_t, fList_l, fList_t, cnd_t, cnd_f, oNe_s, oEq_s, beq_self_eq_true, Bool.not_true, Bool.not_false, keepK_pub, keepK_own, keepK_sup, keepK_supn, noVar_pub, noVar_own, noVar_sup, noVar_supn, sPar_s, fInt_b, fInt_i, fMax2_i, oNe_l, oNe_t, List.map_cons, List.map_nil, gsl, gs, pbs, List.foldl_cons, List.foldl_nil, pb_s, pbV_own, pbV_pub, pbV_sup, pbV_emp, xPs_s, sFor_s, xLc_s, iX_s, withS_l, withS_t, iR1_s, oneI_s, hid_cons, hid_nil, hid1_pub, hid1_own, hid1_sup, hid1_supn, hid1_emp, wip, tYes_s, pubK_var, keepK_var, gN_var, retOf_var, retV_own, retV_pub, sExp_s, xIf_s, oNeg_i, oIs_n, oIsNot_n, xStp_s, xSl_s, pN_s, pS_s, slD_l, slD_t, iE_s, lAppend_s, withO_some, withP_pub, retOf_pub, retOf_own, oAdd_l, oAdd_t, oMul_i, oPow_i, fIsi_s, xAnd_s, xOr_s, xNot_s, i0, i1]
  have hO : RowD (tupI other) := ⟨other, rfl, hR, hl1, by omega⟩
  have hN1 : RowD (tupI one) := ⟨one, rfl, hnR, by omega, by omega⟩
  refine ⟨by simp, rfl, one, other, _, rfl, hO, small_P hRP2, fun ds hd e he => small_R hRP2 (by injection hd with hd; rw [hd]; exact he), fun _ => ?_, fun h => absurd hPD2 h⟩
  simp
  rw [i0]
  simp
  refine ⟨rows, rfl, hRP, fun ds1 hd1 hv1 => ?_⟩
  simp only [gN_pub, gN_own, gT_s, gL_s, List.set_cons_succ, List.set_cons_zero, sSeq_s, sAsg_s, sIf_s, sRet_s, sNx_s, tV_s, tOr_s, tAnd_s, tNot_s, x1_s, x2_s, xCall_s, aC_s, aN_s, xP_s, xQ_s, xV_s, xC_s, xLst_s, xTup_s, pubs_pub', pubs_nil', List.getElem?_cons_succ, List.getElem?_cons_zero, varK_pub, varK_own, varK_sup, varK_supn, pubK_pub, pubK_own, pubK_sup, pubK_supn, rd_pub, rd_own, rd_var, rdV_own, rdV_pub, withD_some, withI_some, withB_some, withT_some, withL_s, List.all_cons, List.all_nil, okArg_pub, okArg_sup, oAdd_i, oSub_i, oMod_i, oEq_i, oNe_i, oLt_i, oGt_i, oLe_i, oGe_i, oIx_l, oIx_t, fLen_l, fLen_t, fTuple_l, fTuple_t, fList_l, fList_t, cnd_t, cnd_f, oNe_s, oEq_s, beq_self_eq_true, Bool.not_true, Bool.not_false, keepK_pub, keepK_own, keepK_sup, keepK_supn, noVar_pub, noVar_own, noVar_sup, noVar_supn, sPar_s, fInt_b, fInt_i, fMax2_i, oNe_l, oNe_t, List.map_cons, List.map_nil, gsl, gs, pbs, List.foldl_cons, List.foldl_nil, pb_s, pbV_own, pbV_pub, pbV_sup, pbV_emp, xPs_s, sFor_s, xLc_s, iX_s, withS_l, withS_t, iR1_s, oneI_s, hid_cons, hid_nil, hid1_pub, hid1_own, hid1_sup, hid1_supn, hid1_emp, wip, tYes_s, pubK_var, keepK_var, gN_var, retOf_var, retV_own, retV_pub, sExp_s, xIf_s, oNeg_i, oIs_n, oIsNot_n, xStp_s, xSl_s, pN_s, pS_s, slD_l, slD_t, iE_s, lAppend_s, withO_some, withP_pub, retOf_pub, retOf_own, oAdd_l, oAdd_t, oMul_i, oPow_i, fIsi_s, xAnd_s, xOr_s, xNot_s, i1]
  refine ⟨rfl, rows2, rfl, hRP2, fun ds2 hd2 hv2 => ?_⟩
  simp only [gN_pub, gN_own, gT_s, gL_s, List.set_cons_succ, List.set_cons_zero, sSeq_s, sAsg_s, sIf_s, sRet_s, sNx_s, tV_s, tOr_s, tAnd_s, tNot_s, x1_s, x2_s, xCall_s, aC_s, aN_s, xP_s, xQ_s, xV_s, xC_s, xLst_s, xTup_s, pubs_pub', pubs_nil', List.getElem?_cons_succ, List.getElem?_cons_zero, varK_pub, varK_own, varK_sup, varK_supn, pubK_pub, pubK_own, pubK_sup, pubK_supn, rd_pub, rd_own, rd_var, rdV_own, rdV_pub, withD_some, withI_some, withB_some, withT_some, withL_s, List.all_cons, List.all_nil, okArg_pub, okArg_sup, oAdd_i, oSub_i, oMod_i, oEq_i, oNe_i, oLt_i, oGt_i, oLe_i, oGe_i, oIx_l, oIx_t, fLen_l, fLen_t, fTuple_l, fTuple_t, fList_l, fList_t, cnd_t, cnd_f, oNe_s, oEq_s, beq_self_eq_true, Bool.not_true, Bool.not_false, keepK_pub, keepK_own, keepK_sup, keepK_supn, noVar_pub, noVar_own, noVar_sup, noVar_supn, sPar_s, fInt_b, fInt_i, fMax2_i, oNe_l, oNe_t, List.map_cons, List.map_nil, gsl, gs, pbs, List.foldl_cons, List.foldl_nil, pb_s, pbV_own, pbV_pub, pbV_sup, pbV_emp, xPs_s, sFor_s, xLc_s, iX_s, withS_l, withS_t, iR1_s, oneI_s, hid_cons, hid_nil, hid1_pub, hid1_own, hid1_sup, hid1_supn, hid1_emp, wip, tYes_s, pubK_var, keepK_var, gN_var, retOf_var, retV_own, retV_pub, sExp_s, xIf_s, oNeg_i, oIs_n, oIsNot_n, xStp_s, xSl_s, pN_s, pS_s, slD_l, slD_t, iE_s, lAppend_s, withO_some, withP_pub, retOf_pub, retOf_own, oAdd_l, oAdd_t, oMul_i, oPow_i, fIsi_s, xAnd_s, xOr_s, xNot_s, i1]
  refine ⟨by omega, ?_⟩
  have hv : ∀ d ∈ ds1 ++ ds2, Vx d := fun d hd => by
    rcases List.mem_append.mp hd with h | h
    · exact hv1 d h
    · exact hv2 d h
  generalize ds1 ++ ds2 = vs at *
  refine forGo_any (fun δ => ∃ x y z : Sl, δ = [.emp, .sup, .pub (.int i), .pub (.tuple (other.map .int)), .pub (.tuple (rows.map tupI)), .pub (.tuple (one.map .int)), .own [.tuple (rows.map tupI), .tuple (rows2.map tupI)], x, y, z]) _ _ ?_ ?_ ⟨_, _, _, rfl⟩
  · rintro v hvm δ N hN' ⟨x, y, z, rfl⟩
    have hV := hv v hvm
    simp only [gN_pub, List.set_cons_succ, List.set_cons_zero, sSeq_s, sAsg_s, x1_s, xV_s, List.getElem?_cons_succ, List.getElem?_cons_zero, varK_pub, rd_pub, withD_some]
    refine DX.FineQ.repr (vx_fine hV) (by decide) (by decide) ?_
    simp only [gN_pub, gN_own, gT_s, gL_s, List.set_cons_succ, List.set_cons_zero, sSeq_s, sAsg_s, sIf_s, sRet_s, sNx_s, tV_s, tOr_s, tAnd_s, tNot_s, x1_s, x2_s, xCall_s, aC_s, aN_s, xP_s, xQ_s, xV_s, xC_s, xLst_s, xTup_s, pubs_pub', pubs_nil', List.getElem?_cons_succ, List.getElem?_cons_zero, varK_pub, varK_own, varK_sup, varK_supn, pubK_pub, pubK_own, pubK_sup, pubK_supn, rd_pub, rd_own, rd_var, rdV_own, rdV_pub, withD_some, withI_some, withB_some, withT_some, withL_s, List.all_cons, List.all_nil, okArg_pub, okArg_sup, oAdd_i, oSub_i, oMod_i, oEq_i, oNe_i, oLt_i, oGt_i, oLe_i, oGe_i, oIx_l, oIx_t, fLen_l, fLen_t, fTuple_l, fTuple_t, fList_l, fList_t, cnd_t, cnd_f, oNe_s, oEq_s, beq_self_eq_true, Bool.not_true, Bool.not_false, keepK_pub, keepK_own, keepK_sup, keepK_supn, noVar_pub, noVar_own, noVar_sup, noVar_supn, sPar_s, fInt_b, fInt_i, fMax2_i, oNe_l, oNe_t, List.map_cons, List.map_nil, gsl, gs, pbs, List.foldl_cons, List.foldl_nil, pb_s, pbV_own, pbV_pub, pbV_sup, pbV_emp, xPs_s, sFor_s, xLc_s, iX_s, withS_l, withS_t, iR1_s, oneI_s, hid_cons, hid_nil, hid1_pub, hid1_own, hid1_sup, hid1_supn, hid1_emp, wip, tYes_s, pubK_var, keepK_var, gN_var, retOf_var, retV_own, retV_pub, sExp_s, xIf_s, oNeg_i, oIs_n, oIsNot_n, xStp_s, xSl_s, pN_s, pS_s, slD_l, slD_t, iE_s, lAppend_s, withO_some, withP_pub, retOf_pub, retOf_own, oAdd_l, oAdd_t, oMul_i, oPow_i, fIsi_s, xAnd_s, xOr_s, xNot_s]
    by_cases hPv : PathD one other v
    · refine ⟨rfl, one, other, v, rfl, hO, vx_small hV, vx_small2 hV, fun _ => ?_, fun h => absurd hPv h⟩
      simp only [gN_pub, gN_own, gT_s, gL_s, List.set_cons_succ, List.set_cons_zero, sSeq_s, sAsg_s, sIf_s, sRet_s, sNx_s, tV_s, tOr_s, tAnd_s, tNot_s, x1_s, x2_s, xCall_s, aC_s, aN_s, xP_s, xQ_s, xV_s, xC_s, xLst_s, xTup_s, pubs_pub', pubs_nil', List.getElem?_cons_succ, List.getElem?_cons_zero, varK_pub, varK_own, varK_sup, varK_supn, pubK_pub, pubK_own, pubK_sup, pubK_supn, rd_pub, rd_own, rd_var, rdV_own, rdV_pub, withD_some, withI_some, withB_some, withT_some, withL_s, List.all_cons, List.all_nil, okArg_pub, okArg_sup, oAdd_i, oSub_i, oMod_i, oEq_i, oNe_i, oLt_i, oGt_i, oLe_i, oGe_i, oIx_l, oIx_t, fLen_l, fLen_t, fTuple_l, fTuple_t, fList_l, fList_t, cnd_t, cnd_f, oNe_s, oEq_s, beq_self_eq_true, Bool.not_true, Bool.not_false, keepK_pub, keepK_own, keepK_sup, keepK_supn, noVar_pub, noVar_own, noVar_sup, noVar_supn, sPar_s, fInt_b, fInt_i, fMax2_i, oNe_l, oNe_t, List.map_cons, List.map_nil, gsl, gs, pbs, List.foldl_cons, List.foldl_nil, pb_s, pbV_own, pbV_pub, pbV_sup, pbV_emp, xPs_s, sFor_s, xLc_s, iX_s, withS_l, withS_t, iR1_s, oneI_s, hid_cons, hid_nil, hid1_pub, hid1_own, hid1_sup, hid1_supn, hid1_emp, wip, tYes_s, pubK_var, keepK_var, gN_var, retOf_var, retV_own, retV_pub, sExp_s, xIf_s, oNeg_i, oIs_n, oIsNot_n, xStp_s, xSl_s, pN_s, pS_s, slD_l, slD_t, iE_s, lAppend_s, withO_some, withP_pub, retOf_pub, retOf_own, oAdd_l, oAdd_t, oMul_i, oPow_i, fIsi_s, xAnd_s, xOr_s, xNot_s, isBoolD]
      refine ⟨rfl, one, other, v, rfl, hN1, hO, hV, fun _ => ?_, fun h => absurd hPv h⟩
      simp
      refine DX.FineQ.repr (vx_fine hV) (by decide) (by decide) ?_
      simp
      exact hN' _ ⟨_, _, _, rfl⟩
    · refine ⟨rfl, one, other, v, rfl, hO, vx_small hV, vx_small2 hV, fun h => absurd h hPv, fun _ => ?_⟩
      simp only [gN_pub, gN_own, gT_s, gL_s, List.set_cons_succ, List.set_cons_zero, sSeq_s, sAsg_s, sIf_s, sRet_s, sNx_s, tV_s, tOr_s, tAnd_s, tNot_s, x1_s, x2_s, xCall_s, aC_s, aN_s, xP_s, xQ_s, xV_s, xC_s, xLst_s, xTup_s, pubs_pub', pubs_nil', List.getElem?_cons_succ, List.getElem?_cons_zero, varK_pub, varK_own, varK_sup, varK_supn, pubK_pub, pubK_own, pubK_sup, pubK_supn, rd_pub, rd_own, rd_var, rdV_own, rdV_pub, withD_some, withI_some, withB_some, withT_some, withL_s, List.all_cons, List.all_nil, okArg_pub, okArg_sup, oAdd_i, oSub_i, oMod_i, oEq_i, oNe_i, oLt_i, oGt_i, oLe_i, oGe_i, oIx_l, oIx_t, fLen_l, fLen_t, fTuple_l, fTuple_t, fList_l, fList_t, cnd_t, cnd_f, oNe_s, oEq_s, beq_self_eq_true, Bool.not_true, Bool.not_false, keepK_pub, keepK_own, keepK_sup, keepK_supn, noVar_pub, noVar_own, noVar_sup, noVar_supn, sPar_s, fInt_b, fInt_i, fMax2_i, oNe_l, oNe_t, List.map_cons, List.map_nil, gsl, gs, pbs, List.foldl_cons, List.foldl_nil, pb_s, pbV_own, pbV_pub, pbV_sup, pbV_emp, xPs_s, sFor_s, xLc_s, iX_s, withS_l, withS_t, iR1_s, oneI_s, hid_cons, hid_nil, hid1_pub, hid1_own, hid1_sup, hid1_supn, hid1_emp, wip, tYes_s, pubK_var, keepK_var, gN_var, retOf_var, retV_own, retV_pub, sExp_s, xIf_s, oNeg_i, oIs_n, oIsNot_n, xStp_s, xSl_s, pN_s, pS_s, slD_l, slD_t, iE_s, lAppend_s, withO_some, withP_pub, retOf_pub, retOf_own, oAdd_l, oAdd_t, oMul_i, oPow_i, fIsi_s, xAnd_s, xOr_s, xNot_s, isBoolD]
      refine ⟨rfl, one, other, v, rfl, hN1, hO, hV, fun h => absurd h hPv, fun _ => ?_⟩
      simp
      refine DX.FineQ.repr (vx_fine hV) (by decide) (by decide) ?_
      simp
      exact hN' _ ⟨_, _, _, rfl⟩
  · rintro δ ⟨x, y, z, rfl⟩
    simp
    by_cases he : one = other
    · simp [he]
      exact hN _ _ _ _ _ _ _ _
    · simp [he]
      refine ⟨other, one, _, rfl, hN1, ?_, ?_, fun h => absurd (hrev h) he, fun _ => ?_⟩
      · intro ds hd
        injection hd with hd
        have h1 := congrArg List.length hd
        rw [List.length_reverse, List.length_map] at h1
        have := hRP.2.1
        omega
      · intro ds hd e he'
        injection hd with hd
        rw [← hd] at he'
        exact small_R hRP (List.mem_reverse.mp he')
      · simp
        exact hN _ _ _ _ _ _ _ _
theorem dd_law : wlaw { nx := fun _ => False, rt := fun r => r = .pub (.bool true) } ((List.replicate 10 Sl.emp).set 1 .sup) := by
  simp only [List.replicate, List.set_cons_succ, List.set_cons_zero]
  simp only [gN_pub, gN_own, gT_s, gL_s, List.set_cons_succ, List.set_cons_zero, sSeq_s, sAsg_s, sIf_s, sRet_s, sNx_s, tV_s, tOr_s, tAnd_s, tNot_s, x1_s, x2_s, xCall_s, aC_s, aN_s, xP_s, xQ_s, xV_s, xC_s, xLst_s, xTup_s, pubs_pub', pubs_nil', List.getElem?_cons_succ, List.getElem?_cons_zero, varK_pub, varK_own, varK_sup, varK_supn, pubK_pub, pubK_own, pubK_sup, pubK_supn, rd_pub, rd_own, rd_var, rdV_own, rdV_pub, withD_some, withI_some, withB_some, withT_some, withL_s, List.all_cons, List.all_nil, okArg_pub, okArg_sup, oAdd_i, oSub_i, oMod_i, oEq_i, oNe_i, oLt_i, oGt_i, oLe_i, oGe_i, oIx_l, oIx_t, fLen_l, fLen_t, fTuple_l, fTuple_t, fList_l, fList_t, cnd_t, cnd_f, oNe_s, oEq_s, beq_self_eq_true, Bool.not_true, Bool.not_false, keepK_pub, keepK_own, keepK_sup, keepK_supn, noVar_pub, noVar_own, noVar_sup, noVar_supn, sPar_s, fInt_b, fInt_i, fMax2_i, oNe_l, oNe_t, List.map_cons, List.map_nil, gsl, gs, pbs, List.foldl_cons, List.foldl_nil, pb_s, pbV_own, pbV_pub, pbV_sup, pbV_emp, xPs_s, sFor_s, xLc_s, iX_s, withS_l, withS_t, iR1_s, oneI_s, hid_cons, hid_nil, hid1_pub, hid1_own, hid1_sup, hid1_supn, hid1_emp, wip, tYes_s]
  refine ⟨i62_of (by omega) (by omega), ?_⟩
  refine forGo_rng0 (fun i δ => ∃ a b c d e f g h, δ = [.emp, .sup, a, b, c, d, e, f, g, h]) 5 ?_ ?_ _ ⟨_, _, _, _, _, _, _, _, rfl⟩
  · rintro i δ N hi hN ⟨a, b, c, d, e, f, g, h, rfl⟩
    simp only [gN_pub, gN_own, gT_s, gL_s, List.set_cons_succ, List.set_cons_zero, sSeq_s, sAsg_s, sIf_s, sRet_s, sNx_s, tV_s, tOr_s, tAnd_s, tNot_s, x1_s, x2_s, xCall_s, aC_s, aN_s, xP_s, xQ_s, xV_s, xC_s, xLst_s, xTup_s, pubs_pub', pubs_nil', List.getElem?_cons_succ, List.getElem?_cons_zero, varK_pub, varK_own, varK_sup, varK_supn, pubK_pub, pubK_own, pubK_sup, pubK_supn, rd_pub, rd_own, rd_var, rdV_own, rdV_pub, withD_some, withI_some, withB_some, withT_some, withL_s, List.all_cons, List.all_nil, okArg_pub, okArg_sup, oAdd_i, oSub_i, oMod_i, oEq_i, oNe_i, oLt_i, oGt_i, oLe_i, oGe_i, oIx_l, oIx_t, fLen_l, fLen_t, fTuple_l, fTuple_t, fList_l, fList_t, cnd_t, cnd_f, oNe_s, oEq_s, beq_self_eq_true, Bool.not_true, Bool.not_false, keepK_pub, keepK_own, keepK_sup, keepK_supn, noVar_pub, noVar_own, noVar_sup, noVar_supn, sPar_s, fInt_b, fInt_i, fMax2_i, oNe_l, oNe_t, List.map_cons, List.map_nil, gsl, gs, pbs, List.foldl_cons, List.foldl_nil, pb_s, pbV_own, pbV_pub, pbV_sup, pbV_emp, xPs_s, sFor_s, xLc_s, iX_s, withS_l, withS_t, iR1_s, oneI_s, hid_cons, hid_nil, hid1_pub, hid1_own, hid1_sup, hid1_supn, hid1_emp, wip, tYes_s, pubK_var, keepK_var, gN_var, retOf_var, retV_own, retV_pub, sExp_s, xIf_s, oNeg_i, oIs_n, oIsNot_n, xStp_s, xSl_s, pN_s, pS_s, slD_l, slD_t, iE_s, lAppend_s, withO_some, withP_pub, retOf_pub, retOf_own, oAdd_l, oAdd_t, oMul_i, oPow_i, fIsi_s, xAnd_s, xOr_s, xNot_s]
    refine ⟨rfl, 9, rfl, by omega, by omega, fun row hR hl hne => ?_⟩
    have hfin : ∀ D : DEnds, D.nx = N → ∀ other, RowOk other → other ≠ [] → other.length ≤ 9 → restLaw D [.emp, .sup, .pub (.int (i : Int)), .pub (tupI other), c, d, e, f, g, h] := fun D hD other h1 h2 h3 => law_rest D i other h1 h2 h3 _ _ _ _ _ _ fun a b c d e f g h => by
      rw [hD]
      exact hN _ ⟨_, _, _, _, _, _, _, _, rfl⟩
    simp only [gN_pub, List.set_cons_succ, List.set_cons_zero, sSeq_s, sIf_s, tV_s, x2_s, xV_s, xC_s, List.getElem?_cons_succ, List.getElem?_cons_zero, varK_pub, rd_pub, withD_some, oEq_i, withB_some]
    refine cnd_of (fun h0 => ?_) (fun h0 => ?_)
    · have hz : (rngD 0 ((row.length : Int)).toNat).reverse = (((List.range row.length).map fun p : Nat => (p : Int)).reverse).map PyData.int := by
        rw [show ((row.length : Int)).toNat = row.length by omega, rng0, List.map_reverse, List.map_map]
        rfl
      have hn : ((List.range row.length).map fun p : Nat => (p : Int)).reverse.length = row.length := by simp
      have h1 : PureE [.emp, .sup, .pub (.int (i : Int)), .pub (tupI row), c, d, e, f, g, h] (x1 fLen (xV 3)) (.int (row.length : Int)) := pu_1 (pu_v rfl) fun k hk => by simpa [tupI] using hk
      have h2 : PureE [.emp, .sup, .pub (.int (i : Int)), .pub (tupI row), c, d, e, f, g, h] (xTR1 (x1 fLen (xV 3))) (.tuple (rngD 0 ((row.length : Int)).toNat)) := fun Q q => by
        rw [xTR1_s]
        exact h1 _ ⟨by omega, by omega, q⟩
      have h3 := pu_rv h2 (po_s (pu_neg (i := 1) pu_c))
      rw [hz] at h3
      simp only [sAsg_s]
      refine h3 _ ?_
      simp only [gN_pub, List.set_cons_succ, List.set_cons_zero]
      refine hfin _ rfl _ ⟨?_, fun k hk => ?_⟩ (fun e => ?_) (by rw [hn]; exact hl)
      · rw [(List.reverse_perm _).nodup_iff]
        exact List.Pairwise.map _ (fun a b hab e => hab (by omega)) List.nodup_range
      · obtain ⟨p, hp, rfl⟩ := List.mem_map.mp (List.mem_reverse.mp hk)
        rw [List.mem_range] at hp
        omega
      · rw [e] at hn
        exact hne (List.eq_nil_of_length_eq_zero hn.symm)
    · simp only [sNx_s]
      exact hfin _ rfl row hR hne hl
  · rintro δ ⟨a, b, c, d, e, f, g, h, rfl⟩
    simp
end LW

namespace LW
open PySem L2 KX DX
def top (i : Nat) : Stmt := PySem.Challenge.pw_oddrounds_k18_exchange_paths_judged.main.body.getD i (.Pass ⟨0, 0, 0, 0⟩)
abbrev s_law_open : Stmt := top 18
abbrev s_law_deal : Stmt := top 19
section
variable {P : Program} {w : World} {K : PySem.W.Frag} {mg : Str → Option Value} {base : Heap}
abbrev n_law_deal : List Str := ["_law_state", "_law_many", "_law_large", "_law_digit"]
theorem scDeal : FnScope n_law_deal ["_law_state", "_law_many"] (defScope s_law_deal) := ⟨rfl, rfl, rfl, by decide +kernel, rfl, by decide +kernel, by decide +kernel⟩
theorem last_at {ls : List Int} (h : ls ≠ []) : atI (ls.map V.int) (-1) = some (V.int (ls.getLast h)) := atI_neg1 (by rw [List.getLast?_map, List.getLast?_eq_some_getLast h]; rfl)
theorem ix_last {n : Nat} (h : 0 < n) : ixN n (-1) = some (n - 1) := by
  unfold ixN; simp; omega
theorem ok_deal {f : Addr} {fd : FuncData} (F : Fun K "_law_deal" "_law_deal" s_law_deal f fd) : FnOk P w K mg base CX0 1 f fd ["_law_state", "_law_many"] (spTakeF fam2) := by
  refine F.ok scDeal (fun vs H Q E h => ?_) (fun cdv A outer s H vs Q E hr h => ?_)
  · obtain ⟨d, c, m, rfl, _⟩ := h
    rfl
  · obtain ⟨d, c, m, rfl, S, hm0, hm, k⟩ := h
    have hu := hu_of hr
    obtain ⟨ls, mm, nn, hd, hc, hl, hb0, hb⟩ := S.ex
    have ndc : d ≠ c := S.ne
    refine ⟨_, pss_cons (ps_set (i := 2) scDeal.nd rfl (.inl rfl) (pe_dget hu (pv 0) pe_str (fun _ _ => rfl)))
      (pss_cons (ps_while PassesOwn.never (PW.pt (pw_and (pt_cmpR (op_neD hr.units) (pv 2) (pe_lst pa_nil) (nomark _)) (pw_and1 (pt_cmpR op_eq (pe_ix ix_list (pv 2) (pe_un un_neg pe_int) (fun _ _ => rfl)) pe_int (nomark _)))))
        (pss_one (ps_expr (pe_bm0 PySem.F.plainAttrs_list PySem.F.slot_list_pop PySem.F.type_list_pop mt_pop (pv 2)))))
      (pss_cons (ps_if (pt_cmpR (op_neD hr.units) (pv 2) (pe_lst pa_nil) (nomark _))
        (pss_cons (ps_set (i := 3) scDeal.nd rfl (.inl rfl) (pe_op op_mod (pe_ix ix_list (pv 2) (pe_un un_neg pe_int) (fun _ _ => rfl)) (pv 1)))
        (pss_cons (ps_asg (pe_op op_fdivW (pe_ix ix_list (pv 2) (pe_un un_neg pe_int) (fun _ _ => rfl)) (pv 1)) (pg_sub (pv 2) (pe_un un_neg pe_int) set_list))
        (pss_one (ps_ret (pv 3))))) pss_nil)
      (pss_cons (ps_dput hu (pv 0) pe_str (pe_op op_add (pe_dget hu (pv 0) pe_str (fun _ _ => rfl)) pe_int) rfl)
      (pss_cons (ps_dput hu (pv 0) pe_str (pe_op op_mod (pe_op op_add (pe_op op_add (pe_op op_mul (pe_dget hu (pv 0) pe_str (fun _ _ => rfl)) pe_int) (pe_op op_mul pe_int (pe_dget hu (pv 0) pe_str (fun _ _ => rfl)))) pe_int) pe_int) rfl)
      (pss_one (ps_ret (pe_op op_mod (pe_op op_fdiv (pe_op op_mod (pe_op op_mul (pe_dget hu (pv 0) pe_str (fun _ _ => rfl)) pe_int) pe_int) pe_int) (pv 1)))))))), ?_⟩
    refine ⟨_, rfl, d, _, rfl, sup_get hd (su2_large c mm nn), ?_⟩
    dsimp only [gName]
    refine cut_seq (fun σ H' => ∃ ls : List Int, σ = [some (.ref d), some (.int m), some (.ref c), none] ∧ H' d = some (.dK (su2 c mm nn)) ∧ H' c = some (.lst (ls.map V.int)) ∧ ls.length ≤ 63 ∧ SameX H H' d c) ?_ (fun N hN => ?_)
    · rintro σ H1 ⟨ls, rfl, hd, hc, hl, sx⟩
      refine ⟨_, rfl, Nat.zero_le _, fun e he => nonempty_data (ns := ls) (SqL.of (by rw [upd_ne (ne_of_none hc he)]; exact hc)) (SqL.of upd_same) ⟨_, rfl, ?_⟩⟩
      have hd2 : upd H1 e (.lst []) d = some (.dK (su2 c mm nn)) := by rw [upd_ne (ne_of_none hd he)]; exact hd
      have hc2 : upd H1 e (.lst []) c = some (.lst (ls.map V.int)) := by rw [upd_ne (ne_of_none hc he)]; exact hc
      have sx2 : SameX H (upd H1 e (.lst [])) d c := sx.trans (.of d c (same_new he))
      generalize upd H1 e (.lst []) = H2 at hd2 hc2 sx2 ⊢
      by_cases hn : ls = []
      · rw [decide_eq_true hn]
        refine iteF ?_
        refine ⟨_, rfl, d, _, rfl, sup_get hd2 (su2_count c mm nn), _, _, rfl, rfl, _, rfl, d, _, rfl, su2_setC hd2, ?_⟩
        have hd3 : upd H2 d (.dK (su2 c mm (nn + 1))) d = some (.dK (su2 c mm (nn + 1))) := upd_same
        have hc3 : upd H2 d (.dK (su2 c mm (nn + 1))) c = some (.lst (ls.map V.int)) := by rw [upd_ne ndc.symm]; exact hc2
        have sx3 : SameX H (upd H2 d (.dK (su2 c mm (nn + 1)))) d c := fun x o h1 h2 e => by rw [upd_ne h1]; exact sx2 x o h1 h2 e
        generalize upd H2 d (.dK (su2 c mm (nn + 1))) = H3 at hd3 hc3 sx3 ⊢
        refine ⟨_, rfl, d, _, rfl, sup_get hd3 (su2_mixed c mm (nn + 1)), _, _, rfl, rfl, .inl ⟨by omega, by omega⟩, _, rfl, d, _, rfl, sup_get hd3 (su2_count c mm (nn + 1)), _, _, rfl, rfl, .inl ⟨by decide, by decide⟩, _, _, rfl, rfl, _, _, rfl, rfl, _, _, rfl, rfl, (by show (0 : Int) < 2147483647; decide), _, rfl, d, _, rfl, su2_setM hd3, ?_⟩
        have hb1 := emod_in (a := mm * 48271 + 2 * (nn + 1) + 1) (m := 2147483647) (by decide)
        generalize (mm * 48271 + 2 * (nn + 1) + 1) % 2147483647 = b3 at hb1 ⊢
        have hd4 : upd H3 d (.dK (su2 c b3 (nn + 1))) d = some (.dK (su2 c b3 (nn + 1))) := upd_same
        have hc4 : upd H3 d (.dK (su2 c b3 (nn + 1))) c = some (.lst (ls.map V.int)) := by rw [upd_ne ndc.symm]; exact hc3
        have sx4 : SameX H (upd H3 d (.dK (su2 c b3 (nn + 1)))) d c := fun x o h1 h2 e => by rw [upd_ne h1]; exact sx3 x o h1 h2 e
        refine ⟨_, rfl, d, _, rfl, sup_get hd4 (su2_mixed c b3 (nn + 1)), _, _, rfl, rfl, .inl ⟨by omega, by omega⟩, _, _, rfl, rfl, (by show (0 : Int) < 2147483647; decide), _, _, rfl, rfl, ⟨by decide, by decide⟩, _, rfl, _, _, rfl, rfl, hm0, ?_⟩
        exact k _ _ (emod_in hm0).1 (emod_in hm0).2 ⟨ls, b3, _, hd4, hc4, hl, hb1.1, hb1.2⟩ sx4
      · rw [decide_eq_false hn]
        refine iteT ?_
        have hp : 0 < ls.length := List.length_pos_iff.mpr hn
        refine ⟨_, rfl, 1, rfl, c, _, _, _, rfl, rfl, SqL.of hc2, last_at hn, _, rfl, _, _, rfl, rfl, hm0, ?_⟩
        refine ⟨_, rfl, 1, rfl, c, _, _, _, rfl, rfl, SqL.of hc2, last_at hn, _, rfl, _, _, rfl, rfl, wide_div hm0 (nats62 hm0 hm) (by decide) (by decide), _, rfl, 1, rfl, c, _, _, ls.length - 1, rfl, rfl, hc2, by rw [List.length_map]; exact ix_last hp, ?_⟩
        refine ⟨_, rfl, ?_⟩
        have es : (ls.map V.int).set (ls.length - 1) (V.int (ls.getLast hn / m)) = (ls.set (ls.length - 1) (ls.getLast hn / m)).map V.int := by rw [List.map_set]
        refine k _ _ (emod_in hm0).1 (emod_in hm0).2 ⟨ls.set (ls.length - 1) (ls.getLast hn / m), mm, nn, ?_, ?_, by rw [List.length_set]; exact hl, hb0, hb⟩ ?_
        · rw [upd_ne ndc]; exact hd2
        · exact upd_same.trans (congrArg (fun l => some (HO.lst l)) es)
        · intro x o h1 h2 e
          rw [upd_ne h2]; exact sx2 x o h1 h2 e
    · refine ⟨fun n σ H' => ∃ ls' : List Int, n = ls'.length ∧ σ = [some (.ref d), some (.int m), some (.ref c), none] ∧ H' d = some (.dK (su2 c mm nn)) ∧ H' c = some (.lst (ls'.map V.int)) ∧ ls'.length ≤ 63 ∧ SameX H H' d c, ⟨_, ls, rfl, rfl, hd, hc, hl, SameX.refl _ _ _⟩, ?_⟩
      rintro n σ H1 ⟨ls, rfl, rfl, hd, hc, hl, sx⟩
      refine ⟨_, rfl, Nat.zero_le _, fun e he => nonempty_data (ns := ls) (SqL.of (by rw [upd_ne (ne_of_none hc he)]; exact hc)) (SqL.of upd_same) ⟨_, rfl, ?_⟩⟩
      have hd2 : upd H1 e (.lst []) d = some (.dK (su2 c mm nn)) := by rw [upd_ne (ne_of_none hd he)]; exact hd
      have hc2 : upd H1 e (.lst []) c = some (.lst (ls.map V.int)) := by rw [upd_ne (ne_of_none hc he)]; exact hc
      have sx2 : SameX H (upd H1 e (.lst [])) d c := sx.trans (.of d c (same_new he))
      generalize upd H1 e (.lst []) = H2 at hd2 hc2 sx2 ⊢
      by_cases hn : ls = []
      · rw [decide_eq_true hn]
        exact iteF (iteF (hN _ _ ⟨ls, rfl, hd2, hc2, hl, sx2⟩))
      · rw [decide_eq_false hn]
        refine iteT ⟨_, rfl, 1, rfl, c, _, _, _, rfl, rfl, SqL.of hc2, last_at hn, ?_⟩
        refine ⟨rfl, _, rfl, ?_⟩
        refine ite2 (fun _ => ?_) (fun _ => hN _ _ ⟨ls, rfl, hd2, hc2, hl, sx2⟩)
        have hp : 0 < ls.length := List.length_pos_iff.mpr hn
        refine ⟨fun σ H' => ∃ ls' : List Int, ls'.length < ls.length ∧ σ = [some (.ref d), some (.int m), some (.ref c), none] ∧ H' d = some (.dK (su2 c mm nn)) ∧ H' c = some (.lst (ls'.map V.int)) ∧ ls'.length ≤ 63 ∧ SameX H H' d c, fun σ' H' ⟨ls', h1, h2⟩ => ⟨ls'.length, h1, ls', rfl, h2⟩, ?_⟩
        refine ⟨_, rfl, .inl ⟨rfl, _, SqL.of hc2⟩, c, _, V.int (ls.getLast hn), rfl, rfl, hc2, ?_, ?_⟩
        · rw [List.length_map, List.getElem?_map, List.getElem?_eq_getElem (by omega), List.getLast_eq_getElem]; rfl
        · refine ⟨ls.dropLast, by rw [List.length_dropLast]; omega, rfl, by rw [upd_ne ndc]; exact hd2, ?_, by rw [List.length_dropLast]; omega, fun x o h1 h2 e => by rw [upd_ne h2]; exact sx2 x o h1 h2 e⟩
          rw [upd_same, List.map_dropLast]
end
end LW

namespace LW
open PySem L2 KX DX
section
variable {P : Program} {w : World} {K : PySem.W.Frag} {mg : Str → Option Value} {base : Heap}
abbrev n_law_open : List Str := ["_law_script", "_law_mixed", "_law_cell", "_law_large"]
theorem scOpen : FnScope n_law_open ["_law_script"] (defScope s_law_open) := ⟨rfl, rfl, rfl, by decide +kernel, rfl, by decide +kernel, by decide +kernel⟩
theorem ok_open {f : Addr} {fd : FuncData} (F : Fun K "_law_open" "_law_open" s_law_open f fd) (mlen : mg "len" = none) (mabs : mg "abs" = none) (mint : mg "int" = none) : FnOk P w K mg base CX0 1 f fd ["_law_script"] (spMake fam2 K) := by
  refine F.ok scOpen (fun vs H Q E h => ?_) (fun cdv A outer s H vs Q E hr h => ?_)
  · obtain ⟨a, ns, rfl, _⟩ := h
    rfl
  · obtain ⟨a, ns, rfl, hS, hl, k⟩ := h
    refine ⟨_, pss_cons (ps_set (i := 1) scOpen.nd rfl (.inl rfl) (pe_op op_add pe_int (pe_callB call_len_seq (by rfl) mlen PySem.boot_len (pa_cons (pv 0) pa_nil))))
      (pss_cons (ps_for PassesOwn.never rfl (pi_list (pe_slice sl_list (pv 0) po_none (po_some pe_int))) (pg_name (i := 2) scOpen.nd rfl (.inl rfl))
        (pss_one (ps_set (i := 1) scOpen.nd rfl (.inl rfl) (pe_op op_mod (pe_op op_add (pe_op op_add (pe_op op_mul (pv 1) pe_int) (pe_op op_mul pe_int (pe_callB call_abs (by rfl) mabs (by decide +kernel) (pa_cons (pv 2) pa_nil))))
          (pe_callTy call_int1 (by rfl) mint (by decide +kernel) (pa_cons (pe_cmpR op_lt (pv 2) pe_int (nomark _)) pa_nil))) pe_int))))
      (pss_cons (ps_setLc (i := 3) (own := [("_law_cell", 2)]) (g := gName 2) rfl scOpen.nd rfl rfl (sw_true rfl rfl rfl (by decide +kernel)) (pi_list (pe_slice sl_list (pv 0) po_none (po_some pe_int)))
          (blkOk_by (own := [("_law_cell", 2)]) (N := n_law_open) (sc := defScope s_law_open) (by decide +kernel)) (fun _ _ _ _ _ => pg_name (i := 2) scOpen.nd rfl (.inl rfl))
          (fun _ _ _ _ _ => pts_one (pt_cmpR op_ge (pe_callB call_abs (by rfl) mabs (by decide +kernel) (pa_cons (pv 2) pa_nil)) (pe_op op_pow pe_int pe_int) (nomark _)))
          (fun _ _ _ _ _ => pe_callB call_abs (by rfl) mabs (by decide +kernel) (pa_cons (pv 2) pa_nil)))
      (pss_one (ps_ret (pe_disp (pps_cons pe_str (pv 3) (pps_cons pe_str (pv 1) (pps_cons pe_str pe_int pps_nil))) (by rfl) (by rfl) (fun z => by cases z) (by decide)))))), ?_⟩
    refine ⟨_, rfl, a, _, rfl, .inl hS, _, _, rfl, rfl, ?_⟩
    refine ⟨_, rfl, 60, rfl, a, _, rfl, hS, fun q hq => ?_⟩
    obtain ⟨ms, em, hml⟩ := cut_ints ns none (some 60)
    rw [em]
    have sq : Same H (upd H q (.lst (ms.map V.int))) := same_new hq
    have hqq : upd H q (.lst (ms.map V.int)) q = some (.lst (ms.map V.int)) := upd_same
    have hl2 : ((ns.map V.int).length : Int) ≤ 63 := by rw [List.length_map]; omega
    generalize upd H q (.lst (ms.map V.int)) = H1 at sq hqq ⊢
    refine ⟨q, rfl, ⟨_, SqL.of hqq⟩, for_list (K := K) (a := q) (xs := ms.map V.int) (fun i σ Hx => ∃ (m : Int) (v : Option V), σ = [some (.ref a), some (.int m), v, none] ∧ Same H1 Hx ∧ 0 ≤ m ∧ m < 2147483647) ⟨_, none, rfl, Same.refl _, by omega, by omega⟩ (fun i σ Hx _ ⟨_, _, _, sx, _⟩ => SqL.of (sx _ _ hqq)) ?_ ?_⟩
    · rintro i y σ Hx hi ⟨m, v, rfl, sx, hm0, hm1⟩
      obtain ⟨z, _, rfl, hil⟩ := getI hi
      refine ⟨_, rfl, _, _, rfl, rfl, .inl ⟨by omega, by omega⟩, _, rfl, z, rfl, _, _, rfl, rfl, .inl ⟨by decide, by decide⟩, _, _, rfl, rfl, _, rfl, _, _, rfl, rfl, .inr ⟨_, rfl, _, _, rfl, rfl, _, _, rfl, rfl, (by show (0 : Int) < 2147483647; decide), ?_⟩⟩
      exact ⟨_, _, rfl, sx, (emod_in (by decide)).1, (emod_in (by decide)).2⟩
    · rintro σ Hx ⟨m, v, rfl, sx, hm0, hm1⟩
      have sH := sq.trans sx
      refine ⟨_, rfl, 60, rfl, a, _, rfl, sH.seq hS, fun q2 hq2 => ?_⟩
      rw [em]
      have s2 : Same Hx (upd Hx q2 (.lst (ms.map V.int))) := same_new hq2
      have hq3 : upd Hx q2 (.lst (ms.map V.int)) q2 = some (.lst (ms.map V.int)) := upd_same
      generalize upd Hx q2 (.lst (ms.map V.int)) = H2 at s2 hq3 ⊢
      refine ⟨q2, rfl, ⟨_, SqL.of hq3⟩, fun c hc => ?_⟩
      refine lc_list (K := K) (a := q2) (xs := ms.map V.int) (fun i Hx => ∃ cs : List Int, cs.length ≤ i ∧ At H2 Hx c (cs.map V.int)) ⟨[], Nat.le_refl _, At.nil hc⟩ (fun i Hx _ ⟨_, _, aa⟩ => SqL.of (aa.1 _ _ hq3)) ?_ ?_
      · rintro i y Hx hi ⟨cs, hcs, aa⟩
        obtain ⟨z, _, rfl, hil⟩ := getI hi
        refine ⟨rfl, _, rfl, z, rfl, _, _, rfl, rfl, ⟨by decide, by decide, by decide⟩, _, _, rfl, rfl, _, rfl, ?_⟩
        refine ite2 (fun _ => ?_) (fun _ => ⟨cs, by omega, aa⟩)
        refine ⟨_, rfl, z, rfl, cs.map V.int, aa.2, by rw [List.length_map]; exact small1000 (by omega), cs ++ [if z < 0 then -z else z], by simp; omega, ?_⟩
        have e := aa.push hc ((cs ++ [if z < 0 then -z else z]).map V.int)
        rw [List.map_append] at e ⊢
        exact e
      · rintro Hy ⟨cs, hcs, aa⟩
        rw [List.length_map] at hcs
        intro d hd
        refine ⟨_, rfl, _, rfl, ?_⟩
        have ncd : c ≠ d := fun z => by rw [← z, aa.2] at hd; cases hd
        refine ⟨upd_same, su2 c m 0, rfl, by show 3 ≤ 15; decide, ?_⟩
        rw [su2_make]
        exact k d [c] _ ⟨cs, m, 0, upd_same, by rw [upd_ne ncd, upd_ne ncd]; exact aa.2, by omega, hm0, hm1⟩
end
end LW

namespace LW
open PySem PySem.Spec L2 KX DX MX
open PyProof.Rows hiding St
section
variable {P : Program} {w : World} {K : PySem.W.Frag} {mg : Str → Option Value} {base : Heap}
abbrev s__law_keys : Stmt := top 20
abbrev n__law_keys : List Str := ["_law_state", "_law_many", "_law_gap", "_law_low", "_law_k"]
theorem sc__law_keys : FnScope n__law_keys ["_law_state", "_law_many"] (defScope s__law_keys) := ⟨rfl, rfl, rfl, by decide +kernel, rfl, by decide +kernel, by decide +kernel⟩
theorem ok__law_keys {f : Addr} {fd : FuncData} {f__law_deal : Addr}
    {fd__law_deal : FuncData}
    (Fn : Fun K "_law_keys" "_law_keys" s__law_keys f fd)
    (G__law_deal : FnOkG P w K mg base CX0 1 f__law_deal fd__law_deal ["_law_state", "_law_many"] (spD fam2 K S_law_deal)) (m__law_deal : mg "_law_deal" = some (.ref f__law_deal)) (k__law_deal : PySem.W.keepIn K (.ref f__law_deal) = true) (b__law_deal : Binds K fd__law_deal ["_law_state", "_law_many"] [])
    (n_range : mg "range" = none)
    (n_min : mg "min" = none) : FnOkG P w K mg base CX0 2 f fd ["_law_state", "_law_many"] (spD fam2 K S_law_keys) := by
  refine okD (wd := w_law_keys) Fn sc__law_keys (fun as k h => len__law_keys as k h) (by decide) (fun cdv A outer s H E hgd hr => ?_) (fun as k h => dd__law_keys as k h)
  have sc := sc__law_keys
  exact (ds_cons (ds_set (i := 2) sc.nd rfl (by first | exact .inl rfl | exact .inr rfl) (d_ix s_ix (d_lst (da_cons (d_p d_int) (da_cons (d_p d_int) (da_cons (d_p (d_op s_pow d_int d_int)) (da_cons (d_p (d_op s_pow d_int d_int)) da_nil))))) (d_call G__law_deal hgd (hr.mono (by decide)) (by rfl) m__law_deal k__law_deal b__law_deal (da_cons (d_p (d_v 0)) (da_cons (d_p d_int) da_nil)))))
  (ds_cons (ds_set (i := 3) sc.nd rfl (by first | exact .inl rfl | exact .inr rfl) (d_ix s_ix (d_lst (da_cons (d_p d_int) (da_cons (d_p d_int) (da_cons (d_p (d_op s_sub (d_op s_pow d_int d_int) (d_op s_mul (d_v 2) (d_v 1)))) da_nil)))) (d_call G__law_deal hgd (hr.mono (by decide)) (by rfl) m__law_deal k__law_deal b__law_deal (da_cons (d_p (d_v 0)) (da_cons (d_p d_int) da_nil)))))
  (ds_one (ds_ret (d_ps [3, 0, 2] (d_lc (own := [("_law_k", 4)]) rfl sc.nd (di_r1 (by rfl) n_range (da_cons (d_v 1) da_nil)) (by first | exact blkOk_by (N := n__law_keys) (sc := defScope s__law_keys) (by decide +kernel) | exact blkOk_by (N := n__law_keys) rfl) tg_name gm_name (fun _ _ _ _ _ => pg_name (i := 4) sc.nd rfl (by first | exact .inl rfl | exact .inr rfl)) (fun _ _ _ _ _ => dts_nil) (fun _ _ _ _ _ => (d_op s_add (d_op s_add (d_v 3) (d_op s_mul (d_v 2) (d_v 4))) (d_call G__law_deal hgd (hr.mono (by decide)) (by rfl) m__law_deal k__law_deal b__law_deal (da_cons (d_p (d_v 0)) (da_cons (d_p (d_b2 (s_min2 rfl) (by rfl) n_min (by decide +kernel) (da_cons (d_v 2) (da_cons d_int da_nil)))) da_nil)))))))))))
abbrev s__law_row : Stmt := top 21
abbrev n__law_row : List Str := ["_law_state", "_law_most", "_law_left", "_law_way", "_law_turn", "_law_place", "_law_far", "_law_found", "_law_size"]
theorem sc__law_row : FnScope n__law_row ["_law_state", "_law_most"] (defScope s__law_row) := ⟨rfl, rfl, rfl, by decide +kernel, rfl, by decide +kernel, by decide +kernel⟩
theorem ok__law_row {f : Addr} {fd : FuncData} {f__law_deal f__law_keys : Addr}
    {fd__law_deal fd__law_keys : FuncData}
    (Fn : Fun K "_law_row" "_law_row" s__law_row f fd)
    (G__law_deal : FnOkG P w K mg base CX0 1 f__law_deal fd__law_deal ["_law_state", "_law_many"] (spD fam2 K S_law_deal)) (m__law_deal : mg "_law_deal" = some (.ref f__law_deal)) (k__law_deal : PySem.W.keepIn K (.ref f__law_deal) = true) (b__law_deal : Binds K fd__law_deal ["_law_state", "_law_many"] [])
    (G__law_keys : FnOkG P w K mg base CX0 2 f__law_keys fd__law_keys ["_law_state", "_law_many"] (spD fam2 K S_law_keys)) (m__law_keys : mg "_law_keys" = some (.ref f__law_keys)) (k__law_keys : PySem.W.keepIn K (.ref f__law_keys) = true) (b__law_keys : Binds K fd__law_keys ["_law_state", "_law_many"] [])
    (n_tuple : mg "tuple" = none)
    (n_len : mg "len" = none)
    (n_int : mg "int" = none)
    (n_range : mg "range" = none) : FnOkG P w K mg base CX0 3 f fd ["_law_state", "_law_most"] (spD fam2 K S_law_row) := by
  refine okD (wd := w_law_row) Fn sc__law_row (fun as k h => len__law_row as k h) (by decide) (fun cdv A outer s H E hgd hr => ?_) (fun as k h => dd__law_row as k h)
  have sc := sc__law_row
  exact (ds_cons (ds_set (i := 2) sc.nd rfl (by first | exact .inl rfl | exact .inr rfl) (d_call G__law_keys hgd (hr.mono (by decide)) (by rfl) m__law_keys k__law_keys b__law_keys (da_cons (d_p (d_v 0)) (da_cons (d_p (d_op s_add d_int (d_call G__law_deal hgd (hr.mono (by decide)) (by rfl) m__law_deal k__law_deal b__law_deal (da_cons (d_p (d_v 0)) (da_cons (d_p (d_v 1)) da_nil))))) da_nil))))
  (ds_cons (ds_set (i := 3) sc.nd rfl (by first | exact .inl rfl | exact .inr rfl) (d_call G__law_deal hgd (hr.mono (by decide)) (by rfl) m__law_deal k__law_deal b__law_deal (da_cons (d_p (d_v 0)) (da_cons (d_p d_int) da_nil))))
  (ds_cons (ds_if (dt_cmp (s_eq hr.units) (d_v 3) d_int)
  (ds_one (ds_ret (d_t1 s_tuple (by rfl) n_tuple (by decide +kernel) (da_cons (d_stp (d_v 2) dp_n dp_n (dp_s (d_neg d_int))) da_nil))))
  ds_nil)
  (ds_cons (ds_if (dt_cmp (s_eq hr.units) (d_v 3) d_int)
  (ds_cons (ds_for PassesOwn.never rfl (di_r1 (by rfl) n_range (da_cons d_int da_nil)) (d_gn (i := 4) sc.nd rfl (by first | exact .inl rfl | exact .inr rfl))
  (ds_cons (ds_set (i := 5) sc.nd rfl (by first | exact .inl rfl | exact .inr rfl) (d_call G__law_deal hgd (hr.mono (by decide)) (by rfl) m__law_deal k__law_deal b__law_deal (da_cons (d_p (d_v 0)) (da_cons (d_p (d_b1 s_len (by rfl) n_len (by decide +kernel) (da_cons (d_v 2) da_nil))) da_nil))))
  (ds_one (ds_set (i := 2) sc.nd rfl (by first | exact .inl rfl | exact .inr rfl) (d_op s_add (d_op s_add (d_sl (d_v 2) dp_n (dp_s (d_v 5))) (d_stp (d_sl (d_v 2) (dp_s (d_v 5)) (dp_s (d_op s_add (d_v 5) d_int))) dp_n dp_n (dp_s (d_neg d_int)))) (d_sl (d_v 2) (dp_s (d_op s_add (d_v 5) d_int)) dp_n))))))
  (ds_one (ds_ret (d_t1 s_tuple (by rfl) n_tuple (by decide +kernel) (da_cons (d_v 2) da_nil)))))
  ds_nil)
  (ds_cons (ds_if (dt_cmp (s_eq hr.units) (d_v 3) d_int)
  (ds_cons (ds_set (i := 6) sc.nd rfl (by first | exact .inl rfl | exact .inr rfl) (d_popAt (i := 2) rfl (d_call G__law_deal hgd (hr.mono (by decide)) (by rfl) m__law_deal k__law_deal b__law_deal (da_cons (d_p (d_v 0)) (da_cons (d_p (d_b1 s_len (by rfl) n_len (by decide +kernel) (da_cons (d_v 2) da_nil))) da_nil)))))
  (ds_cons (ds_set (i := 5) sc.nd rfl (by first | exact .inl rfl | exact .inr rfl) (d_call G__law_deal hgd (hr.mono (by decide)) (by rfl) m__law_deal k__law_deal b__law_deal (da_cons (d_p (d_v 0)) (da_cons (d_p (d_op s_add (d_b1 s_len (by rfl) n_len (by decide +kernel) (da_cons (d_v 2) da_nil)) d_int)) da_nil))))
  (ds_one (ds_ret (d_t1 s_tuple (by rfl) n_tuple (by decide +kernel) (da_cons (d_op s_add (d_op s_add (d_sl (d_v 2) dp_n (dp_s (d_v 5))) (d_lst (da_cons (d_p (d_v 6)) da_nil))) (d_sl (d_v 2) (dp_s (d_v 5)) dp_n)) da_nil))))))
  ds_nil)
  (ds_cons (ds_set (i := 7) sc.nd rfl (by first | exact .inl rfl | exact .inr rfl) (d_lst da_nil))
  (ds_cons (ds_while PassesOwn.never (dt_cmp (s_ne hr.units) (d_v 2) (d_lst da_nil))
  (ds_cons (ds_set (i := 8) sc.nd rfl (by first | exact .inl rfl | exact .inr rfl) (d_op s_add d_int (d_op s_mul (d_call G__law_deal hgd (hr.mono (by decide)) (by rfl) m__law_deal k__law_deal b__law_deal (da_cons (d_p (d_v 0)) (da_cons (d_p (d_b1 s_len (by rfl) n_len (by decide +kernel) (da_cons (d_v 2) da_nil))) da_nil))) (d_t1 s_int (by rfl) n_int (by decide +kernel) (da_cons (d_cmp (s_eq hr.units) (d_v 3) d_int) da_nil)))))
  (ds_cons (ds_set (i := 5) sc.nd rfl (by first | exact .inl rfl | exact .inr rfl) (d_call G__law_deal hgd (hr.mono (by decide)) (by rfl) m__law_deal k__law_deal b__law_deal (da_cons (d_p (d_v 0)) (da_cons (d_p (d_op s_add (d_op s_sub (d_b1 s_len (by rfl) n_len (by decide +kernel) (da_cons (d_v 2) da_nil)) (d_v 8)) d_int)) da_nil))))
  (ds_cons (ds_set (i := 7) sc.nd rfl (by first | exact .inl rfl | exact .inr rfl) (d_op s_add (d_v 7) (d_sl (d_v 2) (dp_s (d_v 5)) (dp_s (d_op s_add (d_v 5) (d_v 8))))))
  (ds_one (ds_set (i := 2) sc.nd rfl (by first | exact .inl rfl | exact .inr rfl) (d_op s_add (d_sl (d_v 2) dp_n (dp_s (d_v 5))) (d_sl (d_v 2) (dp_s (d_op s_add (d_v 5) (d_v 8))) dp_n))))))))
  (ds_one (ds_ret (d_t1 s_tuple (by rfl) n_tuple (by decide +kernel) (da_cons (d_v 7) da_nil)))))))))))
abbrev s__law_lessened : Stmt := top 22
abbrev n__law_lessened : List Str := ["_law_state", "_law_row_here", "_law_times", "_law_turn", "_law_wrong", "_law_place"]
theorem sc__law_lessened : FnScope n__law_lessened ["_law_state", "_law_row_here", "_law_times"] (defScope s__law_lessened) := ⟨rfl, rfl, rfl, by decide +kernel, rfl, by decide +kernel, by decide +kernel⟩
theorem ok__law_lessened {f : Addr} {fd : FuncData} {f__law_deal : Addr}
    {fd__law_deal : FuncData}
    (Fn : Fun K "_law_lessened" "_law_lessened" s__law_lessened f fd)
    (G__law_deal : FnOkG P w K mg base CX0 1 f__law_deal fd__law_deal ["_law_state", "_law_many"] (spD fam2 K S_law_deal)) (m__law_deal : mg "_law_deal" = some (.ref f__law_deal)) (k__law_deal : PySem.W.keepIn K (.ref f__law_deal) = true) (b__law_deal : Binds K fd__law_deal ["_law_state", "_law_many"] [])
    (n_range : mg "range" = none)
    (n_len : mg "len" = none) : FnOkG P w K mg base CX0 2 f fd ["_law_state", "_law_row_here", "_law_times"] (spD fam2 K S_law_lessened) := by
  refine okD (wd := w_law_lessened) Fn sc__law_lessened (fun as k h => len__law_lessened as k h) (by decide) (fun cdv A outer s H E hgd hr => ?_) (fun as k h => dd__law_lessened as k h)
  have sc := sc__law_lessened
  exact (ds_cons (ds_for PassesOwn.never rfl (di_r1 (by rfl) n_range (da_cons (d_v 2) da_nil)) (d_gn (i := 3) sc.nd rfl (by first | exact .inl rfl | exact .inr rfl))
  (ds_cons (ds_setLc (i := 4) (own := [("_law_place", 5)]) rfl sc.nd rfl rfl (sw_true rfl rfl rfl (by decide +kernel)) (di_r1 (by rfl) n_range (da_cons (d_op s_sub (d_b1 s_len (by rfl) n_len (by decide +kernel) (da_cons (d_v 1) da_nil)) d_int) da_nil)) (by first | exact blkOk_by (N := n__law_lessened) (sc := defScope s__law_lessened) (by decide +kernel) | exact blkOk_by (N := n__law_lessened) rfl) tg_name gm_name (fun _ _ _ _ _ => pg_name (i := 5) sc.nd rfl (by first | exact .inl rfl | exact .inr rfl)) (fun _ _ _ _ _ => (dts_one (dt_cmp s_gt (d_ix s_ix (d_v 1) (d_v 5)) (d_ix s_ix (d_v 1) (d_op s_add (d_v 5) d_int))))) (fun _ _ _ _ _ => (d_v 5)) (fun _ => rfl) [1])
  (ds_one (ds_if (dt_cmp (s_ne hr.units) (d_v 4) (d_lst da_nil))
  (ds_cons (ds_set (i := 5) sc.nd rfl (by first | exact .inl rfl | exact .inr rfl) (d_ix s_ix (d_v 4) (d_call G__law_deal hgd (hr.mono (by decide)) (by rfl) m__law_deal k__law_deal b__law_deal (da_cons (d_p (d_v 0)) (da_cons (d_p (d_b1 s_len (by rfl) n_len (by decide +kernel) (da_cons (d_v 4) da_nil))) da_nil)))))
  (ds_one (ds_set (i := 1) sc.nd rfl (by first | exact .inl rfl | exact .inr rfl) (d_op s_add (d_op s_add (d_sl (d_v 1) dp_n (dp_s (d_v 5))) (d_tup (da_cons (d_p (d_ix s_ix (d_v 1) (d_op s_add (d_v 5) d_int))) (da_cons (d_p (d_ix s_ix (d_v 1) (d_v 5))) da_nil)))) (d_sl (d_v 1) (dp_s (d_op s_add (d_v 5) d_int)) dp_n)))))
  ds_nil))))
  (ds_one (ds_ret (d_v 1))))
abbrev s__law_drawn : Stmt := top 23
abbrev n__law_drawn : List Str := ["_law_state", "_law_other", "_law_times", "_law_found", "_law_turn", "_law_row_here"]
theorem sc__law_drawn : FnScope n__law_drawn ["_law_state", "_law_other", "_law_times"] (defScope s__law_drawn) := ⟨rfl, rfl, rfl, by decide +kernel, rfl, by decide +kernel, by decide +kernel⟩
theorem ok__law_drawn {f : Addr} {fd : FuncData} {f__law_lessened : Addr}
    {fd__law_lessened : FuncData}
    (Fn : Fun K "_law_drawn" "_law_drawn" s__law_drawn f fd)
    (G__law_lessened : FnOkG P w K mg base CX0 2 f__law_lessened fd__law_lessened ["_law_state", "_law_row_here", "_law_times"] (spD fam2 K S_law_lessened)) (m__law_lessened : mg "_law_lessened" = some (.ref f__law_lessened)) (k__law_lessened : PySem.W.keepIn K (.ref f__law_lessened) = true) (b__law_lessened : Binds K fd__law_lessened ["_law_state", "_law_row_here", "_law_times"] [])
    (n_tuple : mg "tuple" = none)
    (n_range : mg "range" = none) : FnOkG P w K mg base CX0 3 f fd ["_law_state", "_law_other", "_law_times"] (spD fam2 K S_law_drawn) := by
  refine okD (wd := w_law_drawn) Fn sc__law_drawn (fun as k h => len__law_drawn as k h) (by decide) (fun cdv A outer s H E hgd hr => ?_) (fun as k h => dd__law_drawn as k h)
  have sc := sc__law_drawn
  exact (ds_cons (ds_set (i := 3) sc.nd rfl (by first | exact .inl rfl | exact .inr rfl) (d_lst (da_cons (d_p (d_v 1)) da_nil)))
  (ds_cons (ds_for PassesOwn.never rfl (di_r1 (by rfl) n_range (da_cons (d_v 2) da_nil)) (d_gn (i := 4) sc.nd rfl (by first | exact .inl rfl | exact .inr rfl))
  (ds_cons (ds_set (i := 5) sc.nd rfl (by first | exact .inl rfl | exact .inr rfl) (d_call G__law_lessened hgd (hr.mono (by decide)) (by rfl) m__law_lessened k__law_lessened b__law_lessened (da_cons (d_p (d_v 0)) (da_cons (d_p (d_ix s_ix (d_v 3) (d_neg d_int))) (da_cons (d_p d_int) da_nil)))))
  (ds_one (ds_if (dt_cmp (s_ne hr.units) (d_v 5) (d_ix s_ix (d_v 3) (d_neg d_int)))
  (ds_one (ds_exp (d_append (i := 3) rfl (d_v 5))))
  ds_nil))))
  (ds_one (ds_ret (d_t1 s_tuple (by rfl) n_tuple (by decide +kernel) (da_cons (d_v 3) da_nil))))))
abbrev s_next_exchange : Stmt := top 13
abbrev n_next_exchange : List Str := ["row", "goal", "place", "greater", "smaller"]
theorem sc_next_exchange : FnScope n_next_exchange ["row", "goal"] (defScope s_next_exchange) := ⟨rfl, rfl, rfl, by decide +kernel, rfl, by decide +kernel, by decide +kernel⟩
theorem ok_next_exchange {f : Addr} {fd : FuncData} (Fn : Fun K "next_exchange" "next_exchange" s_next_exchange f fd)
    (n_len : mg "len" = none)
    (n_range : mg "range" = none) : FnOkG P w K mg base CX0 1 f fd ["row", "goal"] (spD fam2 K Snext_exchange) := by
  refine okD (wd := wnext_exchange) Fn sc_next_exchange (fun as k h => len_next_exchange as k h) (by decide) (fun cdv A outer s H E hgd hr => ?_) (fun as k h => dd_next_exchange as k h)
  have sc := sc_next_exchange
  exact (ds_cons (ds_for PassesOwn.never rfl (di_r1 (by rfl) n_range (da_cons (d_op s_sub (d_b1 s_len (by rfl) n_len (by decide +kernel) (da_cons (d_v 0) da_nil)) d_int) da_nil)) (d_gn (i := 2) sc.nd rfl (by first | exact .inl rfl | exact .inr rfl))
  (ds_cons (ds_set (i := 3) sc.nd rfl (by first | exact .inl rfl | exact .inr rfl) (d_ix s_ix (d_v 0) (d_v 2)))
  (ds_cons (ds_set (i := 4) sc.nd rfl (by first | exact .inl rfl | exact .inr rfl) (d_ix s_ix (d_v 0) (d_op s_add (d_v 2) d_int)))
  (ds_one (ds_if (PW.pt (dw_and (dt_cmp s_gt (d_v 3) (d_v 4)) (dw_and1 (dt_cmp s_lt (d_indexT (u200 hr) (d_v 1) (d_v 4)) (d_indexT (u200 hr) (d_v 1) (d_v 3))))))
  (ds_one (ds_ret (d_v 2)))
  ds_nil)))))
  (ds_one (ds_ret d_non)))
abbrev s_inversions : Stmt := top 10
abbrev n_inversions : List Str := ["row", "found", "place", "key", "later"]
theorem sc_inversions : FnScope n_inversions ["row"] (defScope s_inversions) := ⟨rfl, rfl, rfl, by decide +kernel, rfl, by decide +kernel, by decide +kernel⟩
theorem ok_inversions {f : Addr} {fd : FuncData} (Fn : Fun K "inversions" "inversions" s_inversions f fd)
    (n_sorted : mg "sorted" = none)
    (n_tuple : mg "tuple" = none)
    (n_enumerate : mg "enumerate" = none) : FnOkG P w K mg base CX0 1 f fd ["row"] (spD fam2 K Sinversions) := by
  refine okD (wd := winversions) Fn sc_inversions (fun as k h => len_inversions as k h) (by decide) (fun cdv A outer s H E hgd hr => ?_) (fun as k h => dd_inversions as k h)
  have sc := sc_inversions
  exact (ds_cons (ds_set (i := 1) sc.nd rfl (by first | exact .inl rfl | exact .inr rfl) (d_lst da_nil))
  (ds_cons (ds_for PassesOwn.never rfl (di_en (by rfl) n_enumerate (d_v 0)) (d_gtup rfl (d_gcons (d_gn (i := 2) sc.nd rfl (by first | exact .inl rfl | exact .inr rfl)) (d_gcons (d_gn (i := 3) sc.nd rfl (by first | exact .inl rfl | exact .inr rfl)) d_gnil)))
  (ds_one (ds_for PassesOwn.never rfl (di_x (d_sl (d_v 0) (dp_s (d_op s_add (d_v 2) d_int)) dp_n)) (d_gn (i := 4) sc.nd rfl (by first | exact .inl rfl | exact .inr rfl))
  (ds_one (ds_if (dt_cmp s_lt (d_v 4) (d_v 3))
  (ds_one (ds_exp (d_append (i := 1) rfl (d_tup (da_cons (d_p (d_v 4)) (da_cons (d_p (d_v 3)) da_nil))))))
  ds_nil)))))
  (ds_one (ds_ret (d_t1 s_tuple (by rfl) n_tuple (by decide +kernel) (da_cons (d_b1 (s_sorted (u200 hr)) (by rfl) n_sorted (by decide +kernel) (da_cons (d_v 1) da_nil)) da_nil))))))
abbrev s_is_within : Stmt := top 12
abbrev n_is_within : List Str := ["one", "other", "allowed", "pair"]
theorem sc_is_within : FnScope n_is_within ["one", "other"] (defScope s_is_within) := ⟨rfl, rfl, rfl, by decide +kernel, rfl, by decide +kernel, by decide +kernel⟩
theorem ok_is_within {f : Addr} {fd : FuncData} {f_inversions : Addr}
    {fd_inversions : FuncData}
    (Fn : Fun K "is_within" "is_within" s_is_within f fd)
    (G_inversions : FnOkG P w K mg base CX0 1 f_inversions fd_inversions ["row"] (spD fam2 K Sinversions)) (m_inversions : mg "inversions" = some (.ref f_inversions)) (k_inversions : PySem.W.keepIn K (.ref f_inversions) = true) (b_inversions : Binds K fd_inversions ["row"] [])
    (n_all : mg "all" = none) : FnOkG P w K mg base CX0 2 f fd ["one", "other"] (spD fam2 K Sis_within) := by
  refine okD (wd := wis_within) Fn sc_is_within (fun as k h => len_is_within as k h) (by decide) (fun cdv A outer s H E hgd hr => ?_) (fun as k h => dd_is_within as k h)
  have sc := sc_is_within
  exact (ds_cons (ds_set (i := 2) sc.nd rfl (by first | exact .inl rfl | exact .inr rfl) (d_call G_inversions hgd (hr.mono (by decide)) (by rfl) m_inversions k_inversions b_inversions (da_cons (d_p (d_v 1)) da_nil)))
  (ds_one (ds_ret (d_b1 (s_all rfl) (by rfl) n_all (by decide +kernel) (da_cons (d_ps [2] (d_lc (own := [("pair", 3)]) rfl sc.nd (di_x (d_call G_inversions hgd (hr.mono (by decide)) (by rfl) m_inversions k_inversions b_inversions (da_cons (d_p (d_v 0)) da_nil))) (by first | exact blkOk_by (N := n_is_within) (sc := defScope s_is_within) (by decide +kernel) | exact blkOk_by (N := n_is_within) rfl) tg_name gm_name (fun _ _ _ _ _ => pg_name (i := 3) sc.nd rfl (by first | exact .inl rfl | exact .inr rfl)) (fun _ _ _ _ _ => dts_nil) (fun _ _ _ _ _ => (d_cmp (s_inD (u200 hr)) (d_v 3) (d_v 2))))) da_nil)))))
abbrev s_after_exchange : Stmt := top 1
abbrev n_after_exchange : List Str := ["row", "place"]
theorem sc_after_exchange : FnScope n_after_exchange ["row", "place"] (defScope s_after_exchange) := ⟨rfl, rfl, rfl, by decide +kernel, rfl, by decide +kernel, by decide +kernel⟩
theorem ok_after_exchange {f : Addr} {fd : FuncData} (Fn : Fun K "after_exchange" "after_exchange" s_after_exchange f fd) : FnOkG P w K mg base CX0 1 f fd ["row", "place"] (spD fam2 K Safter_exchange) := by
  refine okD (wd := wafter_exchange) Fn sc_after_exchange (fun as k h => len_after_exchange as k h) (by decide) (fun cdv A outer s H E hgd hr => ?_) (fun as k h => dd_after_exchange as k h)
  have sc := sc_after_exchange
  exact (ds_one (ds_ret (d_op s_add (d_op s_add (d_sl (d_v 0) dp_n (dp_s (d_v 1))) (d_tup (da_cons (d_p (d_ix s_ix (d_v 0) (d_op s_add (d_v 1) d_int))) (da_cons (d_p (d_ix s_ix (d_v 0) (d_v 1))) da_nil)))) (d_sl (d_v 0) (dp_s (d_op s_add (d_v 1) d_int)) dp_n))))
abbrev s_exchange_path : Stmt := top 14
abbrev n_exchange_path : List Str := ["one", "other", "rows", "place"]
theorem sc_exchange_path : FnScope n_exchange_path ["one", "other"] (defScope s_exchange_path) := ⟨rfl, rfl, rfl, by decide +kernel, rfl, by decide +kernel, by decide +kernel⟩
theorem ok_exchange_path {f : Addr} {fd : FuncData} {f_next_exchange f_after_exchange f_is_within : Addr}
    {fd_next_exchange fd_after_exchange fd_is_within : FuncData}
    (Fn : Fun K "exchange_path" "exchange_path" s_exchange_path f fd)
    (G_next_exchange : FnOkG P w K mg base CX0 1 f_next_exchange fd_next_exchange ["row", "goal"] (spD fam2 K Snext_exchange)) (m_next_exchange : mg "next_exchange" = some (.ref f_next_exchange)) (k_next_exchange : PySem.W.keepIn K (.ref f_next_exchange) = true) (b_next_exchange : Binds K fd_next_exchange ["row", "goal"] [])
    (G_after_exchange : FnOkG P w K mg base CX0 1 f_after_exchange fd_after_exchange ["row", "place"] (spD fam2 K Safter_exchange)) (m_after_exchange : mg "after_exchange" = some (.ref f_after_exchange)) (k_after_exchange : PySem.W.keepIn K (.ref f_after_exchange) = true) (b_after_exchange : Binds K fd_after_exchange ["row", "place"] [])
    (G_is_within : FnOkG P w K mg base CX0 2 f_is_within fd_is_within ["one", "other"] (spD fam2 K Sis_within)) (m_is_within : mg "is_within" = some (.ref f_is_within)) (k_is_within : PySem.W.keepIn K (.ref f_is_within) = true) (b_is_within : Binds K fd_is_within ["one", "other"] [])
    (n_tuple : mg "tuple" = none) : FnOkG P w K mg base CX0 3 f fd ["one", "other"] (spD fam2 K Sexchange_path) := by
  refine okD (wd := wexchange_path) Fn sc_exchange_path (fun as k h => len_exchange_path as k h) (by decide) (fun cdv A outer s H E hgd hr => ?_) (fun as k h => dd_exchange_path as k h)
  have sc := sc_exchange_path
  exact (ds_cons (ds_if (dt_not (dt_val (d_call G_is_within hgd (hr.mono (by decide)) (by rfl) m_is_within k_is_within b_is_within (da_cons (d_p (d_v 0)) (da_cons (d_p (d_v 1)) da_nil)))))
  (ds_one (ds_ret d_non))
  ds_nil)
  (ds_cons (ds_set (i := 2) sc.nd rfl (by first | exact .inl rfl | exact .inr rfl) (d_lst (da_cons (d_p (d_v 1)) da_nil)))
  (ds_cons (ds_set (i := 3) sc.nd rfl (by first | exact .inl rfl | exact .inr rfl) (d_call G_next_exchange hgd (hr.mono (by decide)) (by rfl) m_next_exchange k_next_exchange b_next_exchange (da_cons (d_p (d_v 1)) (da_cons (d_p (d_v 0)) da_nil))))
  (ds_cons (ds_while PassesOwn.never (dt_cmp s_isnot (d_v 3) d_non)
  (ds_cons (ds_exp (d_append (i := 2) rfl (d_call G_after_exchange hgd (hr.mono (by decide)) (by rfl) m_after_exchange k_after_exchange b_after_exchange (da_cons (d_p (d_ix s_ix (d_v 2) (d_neg d_int))) (da_cons (d_p (d_v 3)) da_nil)))))
  (ds_one (ds_set (i := 3) sc.nd rfl (by first | exact .inl rfl | exact .inr rfl) (d_call G_next_exchange hgd (hr.mono (by decide)) (by rfl) m_next_exchange k_next_exchange b_next_exchange (da_cons (d_p (d_ix s_ix (d_v 2) (d_neg d_int))) (da_cons (d_p (d_v 0)) da_nil)))))))
  (ds_one (ds_ret (d_t1 s_tuple (by rfl) n_tuple (by decide +kernel) (da_cons (d_v 2) da_nil))))))))
abbrev s_arises_by_exchange : Stmt := top 15
abbrev n_arises_by_exchange : List Str := ["row", "before", "descending", "place"]
theorem sc_arises_by_exchange : FnScope n_arises_by_exchange ["row", "before"] (defScope s_arises_by_exchange) := ⟨rfl, rfl, rfl, by decide +kernel, rfl, by decide +kernel, by decide +kernel⟩
theorem ok_arises_by_exchange {f : Addr} {fd : FuncData} {f_after_exchange : Addr}
    {fd_after_exchange : FuncData}
    (Fn : Fun K "arises_by_exchange" "arises_by_exchange" s_arises_by_exchange f fd)
    (G_after_exchange : FnOkG P w K mg base CX0 1 f_after_exchange fd_after_exchange ["row", "place"] (spD fam2 K Safter_exchange)) (m_after_exchange : mg "after_exchange" = some (.ref f_after_exchange)) (k_after_exchange : PySem.W.keepIn K (.ref f_after_exchange) = true) (b_after_exchange : Binds K fd_after_exchange ["row", "place"] [])
    (n_len : mg "len" = none)
    (n_range : mg "range" = none) : FnOkG P w K mg base CX0 2 f fd ["row", "before"] (spD fam2 K Sarises_by_exchange) := by
  refine okD (wd := warises_by_exchange) Fn sc_arises_by_exchange (fun as k h => len_arises_by_exchange as k h) (by decide) (fun cdv A outer s H E hgd hr => ?_) (fun as k h => dd_arises_by_exchange as k h)
  have sc := sc_arises_by_exchange
  exact (ds_cons (ds_setLc (i := 2) (own := [("place", 3)]) rfl sc.nd rfl rfl (sw_true rfl rfl rfl (by decide +kernel)) (di_r1 (by rfl) n_range (da_cons (d_op s_sub (d_b1 s_len (by rfl) n_len (by decide +kernel) (da_cons (d_v 1) da_nil)) d_int) da_nil)) (by first | exact blkOk_by (N := n_arises_by_exchange) (sc := defScope s_arises_by_exchange) (by decide +kernel) | exact blkOk_by (N := n_arises_by_exchange) rfl) tg_name gm_name (fun _ _ _ _ _ => pg_name (i := 3) sc.nd rfl (by first | exact .inl rfl | exact .inr rfl)) (fun _ _ _ _ _ => (dts_one (dt_cmp s_gt (d_ix s_ix (d_v 1) (d_v 3)) (d_ix s_ix (d_v 1) (d_op s_add (d_v 3) d_int))))) (fun _ _ _ _ _ => (d_v 3)) (fun _ => rfl) [1])
  (ds_one (ds_ret (d_cmp (s_inD (u200 hr)) (d_v 0) (d_ps [1] (d_lc (own := [("place", 3)]) rfl sc.nd (di_x (d_v 2)) (by first | exact blkOk_by (N := n_arises_by_exchange) (sc := defScope s_arises_by_exchange) (by decide +kernel) | exact blkOk_by (N := n_arises_by_exchange) rfl) tg_name gm_name (fun _ _ _ _ _ => pg_name (i := 3) sc.nd rfl (by first | exact .inl rfl | exact .inr rfl)) (fun _ _ _ _ _ => dts_nil) (fun _ _ _ _ _ => (d_call G_after_exchange hgd (hr.mono (by decide)) (by rfl) m_after_exchange k_after_exchange b_after_exchange (da_cons (d_p (d_v 1)) (da_cons (d_p (d_v 3)) da_nil))))))))))
abbrev s_is_plain_integer : Stmt := top 5
abbrev n_is_plain_integer : List Str := ["value"]
theorem sc_is_plain_integer : FnScope n_is_plain_integer ["value"] (defScope s_is_plain_integer) := ⟨rfl, rfl, rfl, by decide +kernel, rfl, by decide +kernel, by decide +kernel⟩
theorem ok_is_plain_integer {f : Addr} {fd : FuncData} (Fn : Fun K "is_plain_integer" "is_plain_integer" s_is_plain_integer f fd)
    (n_isinstance : mg "isinstance" = none)
    (n_bool : mg "bool" = none)
    (n_int : mg "int" = none) : FnOkG P w K mg base CX0 1 f fd ["value"] (spD fam2 K Sis_plain_integer) := by
  refine okD (wd := wis_plain_integer) Fn sc_is_plain_integer (fun as k h => len_is_plain_integer as k h) (by decide) (fun cdv A outer s H E hgd hr => ?_) (fun as k h => dd_is_plain_integer as k h)
  have sc := sc_is_plain_integer
  exact (ds_one (ds_ret (d_and (d_isi (fun _ d => kit_int d) n_isinstance n_int (by decide +kernel) (d_v 0)) (d_one (d_not (d_isi (fun _ d => kit_bool d) n_isinstance n_bool (by decide +kernel) (d_v 0)))))))
abbrev s_is_integer_between : Stmt := top 6
abbrev n_is_integer_between : List Str := ["value", "low", "high"]
theorem sc_is_integer_between : FnScope n_is_integer_between ["value", "low", "high"] (defScope s_is_integer_between) := ⟨rfl, rfl, rfl, by decide +kernel, rfl, by decide +kernel, by decide +kernel⟩
theorem ok_is_integer_between {f : Addr} {fd : FuncData} {f_is_plain_integer : Addr}
    {fd_is_plain_integer : FuncData}
    (Fn : Fun K "is_integer_between" "is_integer_between" s_is_integer_between f fd)
    (G_is_plain_integer : FnOkG P w K mg base CX0 1 f_is_plain_integer fd_is_plain_integer ["value"] (spD fam2 K Sis_plain_integer)) (m_is_plain_integer : mg "is_plain_integer" = some (.ref f_is_plain_integer)) (k_is_plain_integer : PySem.W.keepIn K (.ref f_is_plain_integer) = true) (b_is_plain_integer : Binds K fd_is_plain_integer ["value"] []) : FnOkG P w K mg base CX0 2 f fd ["value", "low", "high"] (spD fam2 K Sis_integer_between) := by
  refine okD (wd := wis_integer_between) Fn sc_is_integer_between (fun as k h => len_is_integer_between as k h) (by decide) (fun cdv A outer s H E hgd hr => ?_) (fun as k h => dd_is_integer_between as k h)
  have sc := sc_is_integer_between
  exact (ds_one (ds_ret (d_and (d_call G_is_plain_integer hgd (hr.mono (by decide)) (by rfl) m_is_plain_integer k_is_plain_integer b_is_plain_integer (da_cons (d_p (d_v 0)) da_nil)) (d_one (d_chain s_le s_le (d_v 1) (d_v 0) (d_v 2))))))
abbrev s_is_key : Stmt := top 7
abbrev n_is_key : List Str := ["value"]
theorem sc_is_key : FnScope n_is_key ["value"] (defScope s_is_key) := ⟨rfl, rfl, rfl, by decide +kernel, rfl, by decide +kernel, by decide +kernel⟩
theorem ok_is_key {f : Addr} {fd : FuncData} {f_is_integer_between : Addr}
    {fd_is_integer_between : FuncData}
    (Fn : Fun K "is_key" "is_key" s_is_key f fd)
    (G_is_integer_between : FnOkG P w K mg base CX0 2 f_is_integer_between fd_is_integer_between ["value", "low", "high"] (spD fam2 K Sis_integer_between)) (m_is_integer_between : mg "is_integer_between" = some (.ref f_is_integer_between)) (k_is_integer_between : PySem.W.keepIn K (.ref f_is_integer_between) = true) (b_is_integer_between : Binds K fd_is_integer_between ["value", "low", "high"] [])
    {u_MAX_KEY : Value} (g_MAX_KEY : mg "MAX_KEY" = some u_MAX_KEY ∧ RelV (.int 1000000000000) u_MAX_KEY) : FnOkG P w K mg base CX0 3 f fd ["value"] (spD fam2 K Sis_key) := by
  refine okD (wd := wis_key) Fn sc_is_key (fun as k h => len_is_key as k h) (by decide) (fun cdv A outer s H E hgd hr => ?_) (fun as k h => dd_is_key as k h)
  have sc := sc_is_key
  exact (ds_one (ds_ret (d_call G_is_integer_between hgd (hr.mono (by decide)) (by rfl) m_is_integer_between k_is_integer_between b_is_integer_between (da_cons (d_p (d_v 0)) (da_cons (d_p d_int) (da_cons (d_p (d_glob g_MAX_KEY)) da_nil))))))
abbrev s_row_error : Stmt := top 9
abbrev n_row_error : List Str := ["value", "index", "item"]
theorem sc_row_error : FnScope n_row_error ["value"] (defScope s_row_error) := ⟨rfl, rfl, rfl, by decide +kernel, rfl, by decide +kernel, by decide +kernel⟩
theorem ok_row_error {f : Addr} {fd : FuncData} {f_is_key : Addr}
    {fd_is_key : FuncData}
    (Fn : Fun K "row_error" "row_error" s_row_error f fd)
    (G_is_key : FnOkG P w K mg base CX0 3 f_is_key fd_is_key ["value"] (spD fam2 K Sis_key)) (m_is_key : mg "is_key" = some (.ref f_is_key)) (k_is_key : PySem.W.keepIn K (.ref f_is_key) = true) (b_is_key : Binds K fd_is_key ["value"] [])
    (n_enumerate : mg "enumerate" = none)
    (n_len : mg "len" = none)
    (n_isinstance : mg "isinstance" = none)
    (n_tuple : mg "tuple" = none)
    {u_MAX_PLACES : Value} (g_MAX_PLACES : mg "MAX_PLACES" = some u_MAX_PLACES ∧ RelV (.int 24) u_MAX_PLACES) : FnOkG P w K mg base CX0 4 f fd ["value"] (spD fam2 K Srow_error) := by
  refine okD (wd := wrow_error) Fn sc_row_error (fun as k h => len_row_error as k h) (by decide) (fun cdv A outer s H E hgd hr => ?_) (fun as k h => dd_row_error as k h)
  have sc := sc_row_error
  exact (ds_cons (ds_if (dt_not (dt_val (d_isi (fun _ d => kit_tup d) n_isinstance n_tuple (by decide +kernel) (d_v 0))))
  (ds_one (ds_ret (d_tup (da_cons (d_p d_non) (da_cons (d_p d_str) da_nil)))))
  ds_nil)
  (ds_cons (ds_if (dt_not (dt_chain s_le s_le d_int (d_b1 s_len (by rfl) n_len (by decide +kernel) (da_cons (d_v 0) da_nil)) (d_glob g_MAX_PLACES)))
  (ds_one (ds_ret (d_tup (da_cons (d_p d_non) (da_cons (d_p d_str) da_nil)))))
  ds_nil)
  (ds_cons (ds_for PassesOwn.never rfl (di_en (by rfl) n_enumerate (d_v 0)) (d_gtup rfl (d_gcons (d_gn (i := 1) sc.nd rfl (by first | exact .inl rfl | exact .inr rfl)) (d_gcons (d_gn (i := 2) sc.nd rfl (by first | exact .inl rfl | exact .inr rfl)) d_gnil)))
  (ds_cons (ds_if (dt_not (dt_val (d_call G_is_key hgd (hr.mono (by decide)) (by rfl) m_is_key k_is_key b_is_key (da_cons (d_p (d_v 2)) da_nil))))
  (ds_one (ds_ret (d_tup (da_cons (d_p (d_v 1)) (da_cons (d_p d_str) da_nil)))))
  ds_nil)
  (ds_one (ds_if (dt_cmp (s_inD (u200 hr)) (d_v 2) (d_sl (d_v 0) dp_n (dp_s (d_v 1))))
  (ds_one (ds_ret (d_tup (da_cons (d_p (d_v 1)) (da_cons (d_p d_str) da_nil)))))
  ds_nil))))
  (ds_one (ds_ret d_non)))))
abbrev s_is_row : Stmt := top 8
abbrev n_is_row : List Str := ["value"]
theorem sc_is_row : FnScope n_is_row ["value"] (defScope s_is_row) := ⟨rfl, rfl, rfl, by decide +kernel, rfl, by decide +kernel, by decide +kernel⟩
theorem ok_is_row {f : Addr} {fd : FuncData} {f_row_error : Addr}
    {fd_row_error : FuncData}
    (Fn : Fun K "is_row" "is_row" s_is_row f fd)
    (G_row_error : FnOkG P w K mg base CX0 4 f_row_error fd_row_error ["value"] (spD fam2 K Srow_error)) (m_row_error : mg "row_error" = some (.ref f_row_error)) (k_row_error : PySem.W.keepIn K (.ref f_row_error) = true) (b_row_error : Binds K fd_row_error ["value"] []) : FnOkG P w K mg base CX0 5 f fd ["value"] (spD fam2 K Sis_row) := by
  refine okD (wd := wis_row) Fn sc_is_row (fun as k h => len_is_row as k h) (by decide) (fun cdv A outer s H E hgd hr => ?_) (fun as k h => dd_is_row as k h)
  have sc := sc_is_row
  exact (ds_one (ds_ret (d_cmp s_is (d_call G_row_error hgd (hr.mono (by decide)) (by rfl) m_row_error k_row_error b_row_error (da_cons (d_p (d_v 0)) da_nil)) d_non)))
abbrev s_exchange_path_holds : Stmt := top 16
abbrev n_exchange_path_holds : List Str := ["one", "other", "value", "item", "at"]
theorem sc_exchange_path_holds : FnScope n_exchange_path_holds ["one", "other", "value"] (defScope s_exchange_path_holds) := ⟨rfl, rfl, rfl, by decide +kernel, rfl, by decide +kernel, by decide +kernel⟩
theorem ok_exchange_path_holds {f : Addr} {fd : FuncData} {f_arises_by_exchange f_is_row : Addr}
    {fd_arises_by_exchange fd_is_row : FuncData}
    (Fn : Fun K "exchange_path_holds" "exchange_path_holds" s_exchange_path_holds f fd)
    (G_arises_by_exchange : FnOkG P w K mg base CX0 2 f_arises_by_exchange fd_arises_by_exchange ["row", "before"] (spD fam2 K Sarises_by_exchange)) (m_arises_by_exchange : mg "arises_by_exchange" = some (.ref f_arises_by_exchange)) (k_arises_by_exchange : PySem.W.keepIn K (.ref f_arises_by_exchange) = true) (b_arises_by_exchange : Binds K fd_arises_by_exchange ["row", "before"] [])
    (G_is_row : FnOkG P w K mg base CX0 5 f_is_row fd_is_row ["value"] (spD fam2 K Sis_row)) (m_is_row : mg "is_row" = some (.ref f_is_row)) (k_is_row : PySem.W.keepIn K (.ref f_is_row) = true) (b_is_row : Binds K fd_is_row ["value"] [])
    (n_len : mg "len" = none)
    (n_range : mg "range" = none)
    (n_all : mg "all" = none)
    (n_isinstance : mg "isinstance" = none)
    (n_tuple : mg "tuple" = none) : FnOkG P w K mg base CX0 6 f fd ["one", "other", "value"] (spD fam2 K Sexchange_path_holds) := by
  refine okD (wd := wexchange_path_holds) Fn sc_exchange_path_holds (fun as k h => len_exchange_path_holds as k h) (by decide) (fun cdv A outer s H E hgd hr => ?_) (fun as k h => dd_exchange_path_holds as k h)
  have sc := sc_exchange_path_holds
  exact (ds_cons (ds_if (PW.pt (dw_or (dt_not (dt_val (d_isi (fun _ d => kit_tup d) n_isinstance n_tuple (by decide +kernel) (d_v 2)))) (dw_or1 (dt_not (dt_val (d_b1 (s_all rfl) (by rfl) n_all (by decide +kernel) (da_cons (d_ps [] (d_lc (own := [("item", 3)]) rfl sc.nd (di_x (d_v 2)) (by first | exact blkOk_by (N := n_exchange_path_holds) (sc := defScope s_exchange_path_holds) (by decide +kernel) | exact blkOk_by (N := n_exchange_path_holds) rfl) tg_name gm_name (fun _ _ _ _ _ => pg_name (i := 3) sc.nd rfl (by first | exact .inl rfl | exact .inr rfl)) (fun _ _ _ _ _ => dts_nil) (fun _ _ _ _ _ => (d_call G_is_row hgd (hr.mono (by decide)) (by rfl) m_is_row k_is_row b_is_row (da_cons (d_p (d_v 3)) da_nil))))) da_nil)))))))
  (ds_one (ds_ret d_bl))
  ds_nil)
  (ds_cons (ds_if (PW.pt (dw_or (dt_cmp (s_eq hr.units) (d_b1 s_len (by rfl) n_len (by decide +kernel) (da_cons (d_v 2) da_nil)) d_int) (dw_or (dt_cmp (s_ne hr.units) (d_ix s_ix (d_v 2) d_int) (d_v 1)) (dw_or1 (dt_cmp (s_ne hr.units) (d_ix s_ix (d_v 2) (d_neg d_int)) (d_v 0))))))
  (ds_one (ds_ret d_bl))
  ds_nil)
  (ds_one (ds_ret (d_b1 (s_all rfl) (by rfl) n_all (by decide +kernel) (da_cons (d_ps [2] (d_lc (own := [("at", 4)]) rfl sc.nd (di_r2 (by rfl) n_range (da_cons d_int (da_cons (d_b1 s_len (by rfl) n_len (by decide +kernel) (da_cons (d_v 2) da_nil)) da_nil))) (by first | exact blkOk_by (N := n_exchange_path_holds) (sc := defScope s_exchange_path_holds) (by decide +kernel) | exact blkOk_by (N := n_exchange_path_holds) rfl) tg_name gm_name (fun _ _ _ _ _ => pg_name (i := 4) sc.nd rfl (by first | exact .inl rfl | exact .inr rfl)) (fun _ _ _ _ _ => dts_nil) (fun _ _ _ _ _ => (d_call G_arises_by_exchange hgd (hr.mono (by decide)) (by rfl) m_arises_by_exchange k_arises_by_exchange b_arises_by_exchange (da_cons (d_p (d_ix s_ix (d_v 2) (d_v 4))) (da_cons (d_p (d_ix s_ix (d_v 2) (d_op s_sub (d_v 4) d_int))) da_nil)))))) da_nil))))))
abbrev s__law_values : Stmt := top 25
abbrev n__law_values : List Str := ["_law_state", "_law_path", "_law_spot", "_law_odd", "_law_flags", "_law_key", "_law_some", "_law_row_here"]
theorem sc__law_values : FnScope n__law_values ["_law_state", "_law_path"] (defScope s__law_values) := ⟨rfl, rfl, rfl, by decide +kernel, rfl, by decide +kernel, by decide +kernel⟩
theorem ok__law_values {f : Addr} {fd : FuncData} {f__law_deal : Addr}
    {fd__law_deal : FuncData}
    (Fn : Fun K "_law_values" "_law_values" s__law_values f fd)
    (G__law_deal : FnOkG P w K mg base CX0 1 f__law_deal fd__law_deal ["_law_state", "_law_many"] (spD fam2 K S_law_deal)) (m__law_deal : mg "_law_deal" = some (.ref f__law_deal)) (k__law_deal : PySem.W.keepIn K (.ref f__law_deal) = true) (b__law_deal : Binds K fd__law_deal ["_law_state", "_law_many"] [])
    (n_list : mg "list" = none)
    (n_int : mg "int" = none)
    (n_tuple : mg "tuple" = none)
    (n_len : mg "len" = none) : FnOkG P w K mg base CX0 2 f fd ["_law_state", "_law_path"] (spD fam2 K S_law_values) := by
  refine okD (wd := w_law_values) Fn sc__law_values (fun as k h => len__law_values as k h) (by decide) (fun cdv A outer s H E hgd hr => ?_) (fun as k h => dd__law_values as k h)
  have sc := sc__law_values
  exact (ds_cons (ds_set (i := 2) sc.nd rfl (by first | exact .inl rfl | exact .inr rfl) (d_call G__law_deal hgd (hr.mono (by decide)) (by rfl) m__law_deal k__law_deal b__law_deal (da_cons (d_p (d_v 0)) (da_cons (d_p (d_b1 s_len (by rfl) n_len (by decide +kernel) (da_cons (d_v 1) da_nil))) da_nil))))
  (ds_cons (ds_set (i := 3) sc.nd rfl (by first | exact .inl rfl | exact .inr rfl) (d_ix s_ix (d_lst (da_cons (d_p d_non) (da_cons (d_p (d_tup da_nil)) (da_cons (d_p (d_lst da_nil)) (da_cons (d_p d_dict0) (da_cons (d_p d_int) (da_cons (d_p d_str) (da_cons (d_p d_bl) (da_cons (d_p (d_tup (da_cons (d_p d_int) da_nil))) (da_cons (d_p (d_v 1)) da_nil)))))))))) (d_call G__law_deal hgd (hr.mono (by decide)) (by rfl) m__law_deal k__law_deal b__law_deal (da_cons (d_p (d_v 0)) (da_cons (d_p d_int) da_nil)))))
  (ds_cons (ds_set (i := 4) sc.nd rfl (by first | exact .inl rfl | exact .inr rfl) (d_t1 s_tuple (by rfl) n_tuple (by decide +kernel) (da_cons (d_ps [] (d_lc (own := [("_law_key", 5)]) rfl sc.nd (di_x (d_ix s_ix (d_v 1) (d_v 2))) (by first | exact blkOk_by (N := n__law_values) (sc := defScope s__law_values) (by decide +kernel) | exact blkOk_by (N := n__law_values) rfl) tg_name gm_name (fun _ _ _ _ _ => pg_name (i := 5) sc.nd rfl (by first | exact .inl rfl | exact .inr rfl)) (fun _ _ _ _ _ => dts_nil) (fun _ _ _ _ _ => (d_ix s_ix (d_lst (da_cons (d_p (d_v 5)) (da_cons (d_p (d_cmp (s_eq hr.units) (d_v 5) d_int)) da_nil))) (d_t1 s_int (by rfl) n_int (by decide +kernel) (da_cons (d_cmp s_lt (d_v 5) d_int) da_nil)))))) da_nil)))
  (ds_cons (ds_set (i := 6) sc.nd rfl (by first | exact .inl rfl | exact .inr rfl) (d_lst (da_cons (d_p (d_v 1)) (da_cons (d_p (d_rvT (d_v 1) (dp_s (d_neg d_int)))) (da_cons (d_p (d_op s_add (d_sl (d_v 1) dp_n (dp_s (d_v 2))) (d_sl (d_v 1) (dp_s (d_op s_add (d_v 2) d_int)) dp_n))) (da_cons (d_p (d_op s_add (d_sl (d_v 1) dp_n (dp_s (d_op s_add (d_v 2) d_int))) (d_sl (d_v 1) (dp_s (d_v 2)) dp_n))) (da_cons (d_p (d_t1 s_list (by rfl) n_list (by decide +kernel) (da_cons (d_v 1) da_nil))) (da_cons (d_p (d_v 3)) (da_cons (d_p (d_tup (da_cons (d_p (d_v 1)) da_nil))) da_nil)))))))))
  (ds_cons (ds_for PassesOwn.never rfl (di_x (d_lst (da_cons (d_p (d_v 3)) (da_cons (d_p (d_v 4)) (da_cons (d_p (d_t1 s_list (by rfl) n_list (by decide +kernel) (da_cons (d_ix s_ix (d_v 1) (d_v 2)) da_nil))) (da_cons (d_p (d_rvT (d_ix s_ix (d_v 1) (d_v 2)) (dp_s (d_neg d_int)))) (da_cons (d_p (d_sl (d_ix s_ix (d_v 1) (d_v 2)) dp_n (dp_s (d_neg d_int)))) (da_cons (d_p (d_op s_add (d_ix s_ix (d_v 1) (d_v 2)) (d_sl (d_ix s_ix (d_v 1) (d_v 2)) dp_n (dp_s d_int)))) da_nil)))))))) (d_gn (i := 7) sc.nd rfl (by first | exact .inl rfl | exact .inr rfl))
  (ds_one (ds_exp (d_append (i := 6) rfl (d_op s_add (d_op s_add (d_sl (d_v 1) dp_n (dp_s (d_v 2))) (d_tup (da_cons (d_p (d_v 7)) da_nil))) (d_sl (d_v 1) (dp_s (d_op s_add (d_v 2) d_int)) dp_n))))))
  (ds_one (ds_ret (d_op s_add (d_v 6) (d_lst (da_cons (d_p (d_op s_add (d_op s_add (d_v 1) (d_sl (d_v 1) (dp_s (d_neg d_int)) (dp_s (d_neg d_int)))) (d_sl (d_v 1) (dp_s (d_neg d_int)) dp_n))) (da_cons (d_p (d_op s_add (d_sl (d_v 1) dp_n (dp_s d_int)) (d_v 1))) (da_cons (d_p (d_op s_add (d_sl (d_v 1) dp_n (dp_s d_int)) (d_sl (d_v 1) (dp_s (d_neg d_int)) dp_n))) da_nil))))))))))))
abbrev s__law_due : Stmt := top 24
abbrev n__law_due : List Str := ["_law_one", "_law_other", "_law_value", "_law_row_here", "_law_after", "_law_some", "_law_place"]
theorem sc__law_due : FnScope n__law_due ["_law_one", "_law_other", "_law_value"] (defScope s__law_due) := ⟨rfl, rfl, rfl, by decide +kernel, rfl, by decide +kernel, by decide +kernel⟩
theorem ok__law_due {f : Addr} {fd : FuncData} (Fn : Fun K "_law_due" "_law_due" s__law_due f fd)
    (n_zip : mg "zip" = none)
    (n_repr : mg "repr" = none)
    (n_len : mg "len" = none)
    (n_range : mg "range" = none)
    (n_isinstance : mg "isinstance" = none)
    (n_tuple : mg "tuple" = none) : FnOkG P w K mg base CX0 1 f fd ["_law_one", "_law_other", "_law_value"] (spD fam2 K S_law_due) := by
  refine okD (wd := w_law_due) Fn sc__law_due (fun as k h => len__law_due as k h) (by decide) (fun cdv A outer s H E hgd hr => ?_) (fun as k h => dd__law_due as k h)
  have sc := sc__law_due
  exact (ds_cons (ds_if (PW.pt (dw_or (dt_not (dt_val (d_isi (fun _ d => kit_tup d) n_isinstance n_tuple (by decide +kernel) (d_v 2)))) (dw_or (dt_cmp (s_eqT0 hr.units) (d_v 2) (d_tup da_nil)) (dw_or (dt_cmp (s_ne hr.units) (d_b1 (s_repr hgd hr.units) (by rfl) n_repr (by decide +kernel) (da_cons (d_ix s_ix (d_v 2) d_int) da_nil)) (d_b1 (s_repr hgd hr.units) (by rfl) n_repr (by decide +kernel) (da_cons (d_v 1) da_nil))) (dw_or1 (dt_cmp (s_ne hr.units) (d_b1 (s_repr hgd hr.units) (by rfl) n_repr (by decide +kernel) (da_cons (d_ix s_ix (d_v 2) (d_neg d_int)) da_nil)) (d_b1 (s_repr hgd hr.units) (by rfl) n_repr (by decide +kernel) (da_cons (d_v 0) da_nil))))))))
  (ds_one (ds_ret d_bl))
  ds_nil)
  (ds_cons (ds_for PassesOwn.never rfl (di_zip (by rfl) n_zip (d_v 2) (d_sl (d_v 2) (dp_s d_int) dp_n)) (d_gtup rfl (d_gcons (d_gn (i := 3) sc.nd rfl (by first | exact .inl rfl | exact .inr rfl)) (d_gcons (d_gn (i := 4) sc.nd rfl (by first | exact .inl rfl | exact .inr rfl)) d_gnil)))
  (ds_cons (ds_set (i := 5) sc.nd rfl (by first | exact .inl rfl | exact .inr rfl) (d_lst da_nil))
  (ds_cons (ds_for PassesOwn.never rfl (di_r1 (by rfl) n_range (da_cons (d_op s_sub (d_b1 s_len (by rfl) n_len (by decide +kernel) (da_cons (d_v 3) da_nil)) d_int) da_nil)) (d_gn (i := 6) sc.nd rfl (by first | exact .inl rfl | exact .inr rfl))
  (ds_one (ds_if (dt_cmp s_gt (d_ix s_ix (d_v 3) (d_v 6)) (d_ix s_ix (d_v 3) (d_op s_add (d_v 6) d_int)))
  (ds_one (ds_exp (d_append (i := 5) rfl (d_b1 (s_repr hgd hr.units) (by rfl) n_repr (by decide +kernel) (da_cons (d_op s_add (d_op s_add (d_sl (d_v 3) dp_n (dp_s (d_v 6))) (d_tup (da_cons (d_p (d_ix s_ix (d_v 3) (d_op s_add (d_v 6) d_int))) (da_cons (d_p (d_ix s_ix (d_v 3) (d_v 6))) da_nil)))) (d_sl (d_v 3) (dp_s (d_op s_add (d_v 6) d_int)) dp_n)) da_nil)))))
  ds_nil)))
  (ds_one (ds_if (dt_cmp (s_notinD (u200 hr)) (d_b1 (s_repr hgd hr.units) (by rfl) n_repr (by decide +kernel) (da_cons (d_v 4) da_nil)) (d_v 5))
  (ds_one (ds_ret d_bl))
  ds_nil)))))
  (ds_one (ds_ret d_bl))))
abbrev s_law : Stmt := top 26
abbrev n_law : List Str := ["_law_script", "_law_state", "_law_turn", "_law_other", "_law_path", "_law_one", "_law_paths", "_law_value", "_law_kept", "_law_found"]
theorem sc_law : FnScope n_law ["_law_script"] (defScope s_law) := ⟨rfl, rfl, rfl, by decide +kernel, rfl, by decide +kernel, by decide +kernel⟩
theorem ok_law {f : Addr} {fd : FuncData} {f_exchange_path_holds f__law_values f__law_due f_exchange_path f__law_drawn f__law_deal f__law_row f__law_open : Addr}
    {fd_exchange_path_holds fd__law_values fd__law_due fd_exchange_path fd__law_drawn fd__law_deal fd__law_row fd__law_open : FuncData}
    (Fn : Fun K "law" "law" s_law f fd)
    (G_exchange_path_holds : FnOkG P w K mg base CX0 6 f_exchange_path_holds fd_exchange_path_holds ["one", "other", "value"] (spD fam2 K Sexchange_path_holds)) (m_exchange_path_holds : mg "exchange_path_holds" = some (.ref f_exchange_path_holds)) (k_exchange_path_holds : PySem.W.keepIn K (.ref f_exchange_path_holds) = true) (b_exchange_path_holds : Binds K fd_exchange_path_holds ["one", "other", "value"] [])
    (G__law_values : FnOkG P w K mg base CX0 2 f__law_values fd__law_values ["_law_state", "_law_path"] (spD fam2 K S_law_values)) (m__law_values : mg "_law_values" = some (.ref f__law_values)) (k__law_values : PySem.W.keepIn K (.ref f__law_values) = true) (b__law_values : Binds K fd__law_values ["_law_state", "_law_path"] [])
    (G__law_due : FnOkG P w K mg base CX0 1 f__law_due fd__law_due ["_law_one", "_law_other", "_law_value"] (spD fam2 K S_law_due)) (m__law_due : mg "_law_due" = some (.ref f__law_due)) (k__law_due : PySem.W.keepIn K (.ref f__law_due) = true) (b__law_due : Binds K fd__law_due ["_law_one", "_law_other", "_law_value"] [])
    (G_exchange_path : FnOkG P w K mg base CX0 3 f_exchange_path fd_exchange_path ["one", "other"] (spD fam2 K Sexchange_path)) (m_exchange_path : mg "exchange_path" = some (.ref f_exchange_path)) (k_exchange_path : PySem.W.keepIn K (.ref f_exchange_path) = true) (b_exchange_path : Binds K fd_exchange_path ["one", "other"] [])
    (G__law_drawn : FnOkG P w K mg base CX0 3 f__law_drawn fd__law_drawn ["_law_state", "_law_other", "_law_times"] (spD fam2 K S_law_drawn)) (m__law_drawn : mg "_law_drawn" = some (.ref f__law_drawn)) (k__law_drawn : PySem.W.keepIn K (.ref f__law_drawn) = true) (b__law_drawn : Binds K fd__law_drawn ["_law_state", "_law_other", "_law_times"] [])
    (G__law_deal : FnOkG P w K mg base CX0 1 f__law_deal fd__law_deal ["_law_state", "_law_many"] (spD fam2 K S_law_deal)) (m__law_deal : mg "_law_deal" = some (.ref f__law_deal)) (k__law_deal : PySem.W.keepIn K (.ref f__law_deal) = true) (b__law_deal : Binds K fd__law_deal ["_law_state", "_law_many"] [])
    (G__law_row : FnOkG P w K mg base CX0 3 f__law_row fd__law_row ["_law_state", "_law_most"] (spD fam2 K S_law_row)) (m__law_row : mg "_law_row" = some (.ref f__law_row)) (k__law_row : PySem.W.keepIn K (.ref f__law_row) = true) (b__law_row : Binds K fd__law_row ["_law_state", "_law_most"] [])
    (G__law_open : FnOk P w K mg base CX0 1 f__law_open fd__law_open ["_law_script"] (spMake fam2 K)) (m__law_open : mg "_law_open" = some (.ref f__law_open)) (k__law_open : PySem.W.keepIn K (.ref f__law_open) = true) (b__law_open : Binds K fd__law_open ["_law_script"] [])
    (n_range : mg "range" = none)
    (n_repr : mg "repr" = none)
    (n_isinstance : mg "isinstance" = none)
    (n_bool : mg "bool" = none)
    (n_len : mg "len" = none)
    (n_tuple : mg "tuple" = none) : FnOkG P w K mg base CX0 7 f fd ["_law_script"] (spLaw K) := by
  have sc := sc_law
  refine okLaw (wd := wlaw) (i := 1) (n := 10) Fn sc_law (fun cdv A outer s H E hgd hr => pss_cons (ps_set (i := 1) sc.nd rfl (by first | exact .inl rfl | exact .inr rfl) (pe_call G__law_open (hr.mono (by decide)) (by rfl) m__law_open k__law_open b__law_open .nil pass0 (pa_cons (pv 0) pa_nil))) (?_ : PSs _ _ (lS fam2 K wlaw))) rfl (by decide) dd_law
  exact (ds_cons (ds_for PassesOwn.never rfl (di_r1 (by rfl) n_range (da_cons d_int da_nil)) (d_gn (i := 2) sc.nd rfl (by first | exact .inl rfl | exact .inr rfl))
  (ds_cons (ds_set (i := 3) sc.nd rfl (by first | exact .inl rfl | exact .inr rfl) (d_call G__law_row hgd (hr.mono (by decide)) (by rfl) m__law_row k__law_row b__law_row (da_cons (d_p (d_v 1)) (da_cons (d_p d_int) da_nil))))
  (ds_cons (ds_if (dt_cmp (s_eq hr.units) (d_v 2) d_int)
  (ds_one (ds_set (i := 3) sc.nd rfl (by first | exact .inl rfl | exact .inr rfl) (d_rvT (d_tr1 rfl (by rfl) n_tuple (by rfl) n_range (d_b1 s_len (by rfl) n_len (by decide +kernel) (da_cons (d_v 3) da_nil))) (dp_s (d_neg d_int)))))
  ds_nil)
  (ds_cons (ds_set (i := 4) sc.nd rfl (by first | exact .inl rfl | exact .inr rfl) (d_call G__law_drawn hgd (hr.mono (by decide)) (by rfl) m__law_drawn k__law_drawn b__law_drawn (da_cons (d_p (d_v 1)) (da_cons (d_p (d_v 3)) (da_cons (d_p (d_call G__law_deal hgd (hr.mono (by decide)) (by rfl) m__law_deal k__law_deal b__law_deal (da_cons (d_p (d_v 1)) (da_cons (d_p d_int) da_nil)))) da_nil)))))
  (ds_cons (ds_set (i := 5) sc.nd rfl (by first | exact .inl rfl | exact .inr rfl) (d_ix s_ix (d_v 4) (d_neg d_int)))
  (ds_cons (ds_set (i := 6) sc.nd rfl (by first | exact .inl rfl | exact .inr rfl) (d_lst (da_cons (d_p (d_v 4)) (da_cons (d_p (d_call G_exchange_path hgd (hr.mono (by decide)) (by rfl) m_exchange_path k_exchange_path b_exchange_path (da_cons (d_p (d_v 5)) (da_cons (d_p (d_v 3)) da_nil)))) da_nil))))
  (ds_cons (ds_if (dt_cmp s_isnotB (d_call G_exchange_path_holds hgd (hr.mono (by decide)) (by rfl) m_exchange_path_holds k_exchange_path_holds b_exchange_path_holds (da_cons (d_p (d_v 5)) (da_cons (d_p (d_v 3)) (da_cons (d_p (d_ix s_ix (d_v 6) d_int)) da_nil)))) d_bl)
  (ds_one (ds_ret d_bl))
  ds_nil)
  (ds_cons (ds_for PassesOwn.never rfl (di_x (d_op s_add (d_call G__law_values hgd (hr.mono (by decide)) (by rfl) m__law_values k__law_values b__law_values (da_cons (d_p (d_v 1)) (da_cons (d_p (d_ix s_ix (d_v 6) d_int)) da_nil))) (d_call G__law_values hgd (hr.mono (by decide)) (by rfl) m__law_values k__law_values b__law_values (da_cons (d_p (d_v 1)) (da_cons (d_p (d_ix s_ix (d_v 6) d_int)) da_nil))))) (d_gn (i := 7) sc.nd rfl (by first | exact .inl rfl | exact .inr rfl))
  (ds_cons (ds_set (i := 8) sc.nd rfl (by first | exact .inl rfl | exact .inr rfl) (d_b1 (s_repr hgd hr.units) (by rfl) n_repr (by decide +kernel) (da_cons (d_v 7) da_nil)))
  (ds_cons (ds_set (i := 9) sc.nd rfl (by first | exact .inl rfl | exact .inr rfl) (d_call G_exchange_path_holds hgd (hr.mono (by decide)) (by rfl) m_exchange_path_holds k_exchange_path_holds b_exchange_path_holds (da_cons (d_p (d_v 5)) (da_cons (d_p (d_v 3)) (da_cons (d_p (d_v 7)) da_nil)))))
  (ds_one (ds_if (PW.pt (dw_or (dt_not (dt_val (d_isi (fun _ d => kit_bool d) n_isinstance n_bool (by decide +kernel) (d_v 9)))) (dw_or (dt_cmp (s_ne hr.units) (d_v 9) (d_call G__law_due hgd (hr.mono (by decide)) (by rfl) m__law_due k__law_due b__law_due (da_cons (d_p (d_v 5)) (da_cons (d_p (d_v 3)) (da_cons (d_p (d_v 7)) da_nil))))) (dw_or1 (dt_cmp (s_ne hr.units) (d_b1 (s_repr hgd hr.units) (by rfl) n_repr (by decide +kernel) (da_cons (d_v 7) da_nil)) (d_v 8))))))
  (ds_one (ds_ret d_bl))
  ds_nil)))))
  (ds_one (ds_if (PW.pt (dw_and (dt_cmp (s_ne hr.units) (d_v 5) (d_v 3)) (dw_and1 (dt_cmp s_isnotB (d_call G_exchange_path_holds hgd (hr.mono (by decide)) (by rfl) m_exchange_path_holds k_exchange_path_holds b_exchange_path_holds (da_cons (d_p (d_v 3)) (da_cons (d_p (d_v 5)) (da_cons (d_p (d_rvT (d_v 4) (dp_s (d_neg d_int)))) da_nil)))) d_bl))))
  (ds_one (ds_ret d_bl))
  ds_nil))))))))))
  (ds_one (ds_ret d_bl)))
end
end LW

namespace LW
open PySem L2 KX DX
section
theorem all_mk {l : PySem.W.OpenLaw} {w : World} {K : PySem.W.Frag} {h : Heap} {mg : Str → Option Value} {fa f0 f1 f2 f3 f4 f5 f6 f7 f8 f9 f10 f11 f12 f13 f14 f15 f16 f17 f18 f19 fW : Addr} (X : K.In h) (G : h.Ns mainGlobals mg) (hfa : mg "law" = some (.ref fa))
    {od0 an0 : Option Addr} {sl0 : Array (Option Value)} {oc0 kV0 dc0 pm0 cd0 ct0 : Value}
    {od1 an1 : Option Addr} {sl1 : Array (Option Value)} {oc1 kV1 dc1 pm1 cd1 ct1 : Value}
    {od2 an2 : Option Addr} {sl2 : Array (Option Value)} {oc2 kV2 dc2 pm2 cd2 ct2 : Value}
    {od3 an3 : Option Addr} {sl3 : Array (Option Value)} {oc3 kV3 dc3 pm3 cd3 ct3 : Value}
    {od4 an4 : Option Addr} {sl4 : Array (Option Value)} {oc4 kV4 dc4 pm4 cd4 ct4 : Value}
    {od5 an5 : Option Addr} {sl5 : Array (Option Value)} {oc5 kV5 dc5 pm5 cd5 ct5 : Value}
    {od6 an6 : Option Addr} {sl6 : Array (Option Value)} {oc6 kV6 dc6 pm6 cd6 ct6 : Value}
    {od7 an7 : Option Addr} {sl7 : Array (Option Value)} {oc7 kV7 dc7 pm7 cd7 ct7 : Value}
    {od8 an8 : Option Addr} {sl8 : Array (Option Value)} {oc8 kV8 dc8 pm8 cd8 ct8 : Value}
    {od9 an9 : Option Addr} {sl9 : Array (Option Value)} {oc9 kV9 dc9 pm9 cd9 ct9 : Value}
    {od10 an10 : Option Addr} {sl10 : Array (Option Value)} {oc10 kV10 dc10 pm10 cd10 ct10 : Value}
    {od11 an11 : Option Addr} {sl11 : Array (Option Value)} {oc11 kV11 dc11 pm11 cd11 ct11 : Value}
    {od12 an12 : Option Addr} {sl12 : Array (Option Value)} {oc12 kV12 dc12 pm12 cd12 ct12 : Value}
    {od13 an13 : Option Addr} {sl13 : Array (Option Value)} {oc13 kV13 dc13 pm13 cd13 ct13 : Value}
    {od14 an14 : Option Addr} {sl14 : Array (Option Value)} {oc14 kV14 dc14 pm14 cd14 ct14 : Value}
    {od15 an15 : Option Addr} {sl15 : Array (Option Value)} {oc15 kV15 dc15 pm15 cd15 ct15 : Value}
    {od16 an16 : Option Addr} {sl16 : Array (Option Value)} {oc16 kV16 dc16 pm16 cd16 ct16 : Value}
    {od17 an17 : Option Addr} {sl17 : Array (Option Value)} {oc17 kV17 dc17 pm17 cd17 ct17 : Value}
    {od18 an18 : Option Addr} {sl18 : Array (Option Value)} {oc18 kV18 dc18 pm18 cd18 ct18 : Value}
    {od19 an19 : Option Addr} {sl19 : Array (Option Value)} {oc19 kV19 dc19 pm19 cd19 ct19 : Value}
    {odW anW : Option Addr} {slW : Array (Option Value)} {ocW kVW dcW pmW cdW ctW : Value}
    (a0 : PySem.W.nsIn K mainGlobals "_law_deal" = some (some (.ref f0))) (l0 : K.lookup f0 = some ⟨oc0, od0, .func (PySem.W.fnOf "_law_deal" "_law_deal" (defArgs s_law_deal) (defBody s_law_deal) (defScope s_law_deal) .none kV0 dc0 pm0 an0 cd0 ct0), sl0⟩) (c0 : PySem.W.codeIn K cd0 "_law_deal" = true) (k0 : PySem.W.keepIn K (.ref f0) = true)
    (a1 : PySem.W.nsIn K mainGlobals "_law_open" = some (some (.ref f1))) (l1 : K.lookup f1 = some ⟨oc1, od1, .func (PySem.W.fnOf "_law_open" "_law_open" (defArgs s_law_open) (defBody s_law_open) (defScope s_law_open) .none kV1 dc1 pm1 an1 cd1 ct1), sl1⟩) (c1 : PySem.W.codeIn K cd1 "_law_open" = true) (k1 : PySem.W.keepIn K (.ref f1) = true)
    (a2 : PySem.W.nsIn K mainGlobals "_law_keys" = some (some (.ref f2))) (l2 : K.lookup f2 = some ⟨oc2, od2, .func (PySem.W.fnOf "_law_keys" "_law_keys" (defArgs s__law_keys) (defBody s__law_keys) (defScope s__law_keys) .none kV2 dc2 pm2 an2 cd2 ct2), sl2⟩) (c2 : PySem.W.codeIn K cd2 "_law_keys" = true) (k2 : PySem.W.keepIn K (.ref f2) = true)
    (a3 : PySem.W.nsIn K mainGlobals "_law_row" = some (some (.ref f3))) (l3 : K.lookup f3 = some ⟨oc3, od3, .func (PySem.W.fnOf "_law_row" "_law_row" (defArgs s__law_row) (defBody s__law_row) (defScope s__law_row) .none kV3 dc3 pm3 an3 cd3 ct3), sl3⟩) (c3 : PySem.W.codeIn K cd3 "_law_row" = true) (k3 : PySem.W.keepIn K (.ref f3) = true)
    (a4 : PySem.W.nsIn K mainGlobals "_law_lessened" = some (some (.ref f4))) (l4 : K.lookup f4 = some ⟨oc4, od4, .func (PySem.W.fnOf "_law_lessened" "_law_lessened" (defArgs s__law_lessened) (defBody s__law_lessened) (defScope s__law_lessened) .none kV4 dc4 pm4 an4 cd4 ct4), sl4⟩) (c4 : PySem.W.codeIn K cd4 "_law_lessened" = true) (k4 : PySem.W.keepIn K (.ref f4) = true)
    (a5 : PySem.W.nsIn K mainGlobals "_law_drawn" = some (some (.ref f5))) (l5 : K.lookup f5 = some ⟨oc5, od5, .func (PySem.W.fnOf "_law_drawn" "_law_drawn" (defArgs s__law_drawn) (defBody s__law_drawn) (defScope s__law_drawn) .none kV5 dc5 pm5 an5 cd5 ct5), sl5⟩) (c5 : PySem.W.codeIn K cd5 "_law_drawn" = true) (k5 : PySem.W.keepIn K (.ref f5) = true)
    (a6 : PySem.W.nsIn K mainGlobals "next_exchange" = some (some (.ref f6))) (l6 : K.lookup f6 = some ⟨oc6, od6, .func (PySem.W.fnOf "next_exchange" "next_exchange" (defArgs s_next_exchange) (defBody s_next_exchange) (defScope s_next_exchange) .none kV6 dc6 pm6 an6 cd6 ct6), sl6⟩) (c6 : PySem.W.codeIn K cd6 "next_exchange" = true) (k6 : PySem.W.keepIn K (.ref f6) = true)
    (a7 : PySem.W.nsIn K mainGlobals "inversions" = some (some (.ref f7))) (l7 : K.lookup f7 = some ⟨oc7, od7, .func (PySem.W.fnOf "inversions" "inversions" (defArgs s_inversions) (defBody s_inversions) (defScope s_inversions) .none kV7 dc7 pm7 an7 cd7 ct7), sl7⟩) (c7 : PySem.W.codeIn K cd7 "inversions" = true) (k7 : PySem.W.keepIn K (.ref f7) = true)
    (a8 : PySem.W.nsIn K mainGlobals "is_within" = some (some (.ref f8))) (l8 : K.lookup f8 = some ⟨oc8, od8, .func (PySem.W.fnOf "is_within" "is_within" (defArgs s_is_within) (defBody s_is_within) (defScope s_is_within) .none kV8 dc8 pm8 an8 cd8 ct8), sl8⟩) (c8 : PySem.W.codeIn K cd8 "is_within" = true) (k8 : PySem.W.keepIn K (.ref f8) = true)
    (a9 : PySem.W.nsIn K mainGlobals "after_exchange" = some (some (.ref f9))) (l9 : K.lookup f9 = some ⟨oc9, od9, .func (PySem.W.fnOf "after_exchange" "after_exchange" (defArgs s_after_exchange) (defBody s_after_exchange) (defScope s_after_exchange) .none kV9 dc9 pm9 an9 cd9 ct9), sl9⟩) (c9 : PySem.W.codeIn K cd9 "after_exchange" = true) (k9 : PySem.W.keepIn K (.ref f9) = true)
    (a10 : PySem.W.nsIn K mainGlobals "exchange_path" = some (some (.ref f10))) (l10 : K.lookup f10 = some ⟨oc10, od10, .func (PySem.W.fnOf "exchange_path" "exchange_path" (defArgs s_exchange_path) (defBody s_exchange_path) (defScope s_exchange_path) .none kV10 dc10 pm10 an10 cd10 ct10), sl10⟩) (c10 : PySem.W.codeIn K cd10 "exchange_path" = true) (k10 : PySem.W.keepIn K (.ref f10) = true)
    (a11 : PySem.W.nsIn K mainGlobals "arises_by_exchange" = some (some (.ref f11))) (l11 : K.lookup f11 = some ⟨oc11, od11, .func (PySem.W.fnOf "arises_by_exchange" "arises_by_exchange" (defArgs s_arises_by_exchange) (defBody s_arises_by_exchange) (defScope s_arises_by_exchange) .none kV11 dc11 pm11 an11 cd11 ct11), sl11⟩) (c11 : PySem.W.codeIn K cd11 "arises_by_exchange" = true) (k11 : PySem.W.keepIn K (.ref f11) = true)
    (a12 : PySem.W.nsIn K mainGlobals "is_plain_integer" = some (some (.ref f12))) (l12 : K.lookup f12 = some ⟨oc12, od12, .func (PySem.W.fnOf "is_plain_integer" "is_plain_integer" (defArgs s_is_plain_integer) (defBody s_is_plain_integer) (defScope s_is_plain_integer) .none kV12 dc12 pm12 an12 cd12 ct12), sl12⟩) (c12 : PySem.W.codeIn K cd12 "is_plain_integer" = true) (k12 : PySem.W.keepIn K (.ref f12) = true)
    (a13 : PySem.W.nsIn K mainGlobals "is_integer_between" = some (some (.ref f13))) (l13 : K.lookup f13 = some ⟨oc13, od13, .func (PySem.W.fnOf "is_integer_between" "is_integer_between" (defArgs s_is_integer_between) (defBody s_is_integer_between) (defScope s_is_integer_between) .none kV13 dc13 pm13 an13 cd13 ct13), sl13⟩) (c13 : PySem.W.codeIn K cd13 "is_integer_between" = true) (k13 : PySem.W.keepIn K (.ref f13) = true)
    (a14 : PySem.W.nsIn K mainGlobals "is_key" = some (some (.ref f14))) (l14 : K.lookup f14 = some ⟨oc14, od14, .func (PySem.W.fnOf "is_key" "is_key" (defArgs s_is_key) (defBody s_is_key) (defScope s_is_key) .none kV14 dc14 pm14 an14 cd14 ct14), sl14⟩) (c14 : PySem.W.codeIn K cd14 "is_key" = true) (k14 : PySem.W.keepIn K (.ref f14) = true)
    (a15 : PySem.W.nsIn K mainGlobals "row_error" = some (some (.ref f15))) (l15 : K.lookup f15 = some ⟨oc15, od15, .func (PySem.W.fnOf "row_error" "row_error" (defArgs s_row_error) (defBody s_row_error) (defScope s_row_error) .none kV15 dc15 pm15 an15 cd15 ct15), sl15⟩) (c15 : PySem.W.codeIn K cd15 "row_error" = true) (k15 : PySem.W.keepIn K (.ref f15) = true)
    (a16 : PySem.W.nsIn K mainGlobals "is_row" = some (some (.ref f16))) (l16 : K.lookup f16 = some ⟨oc16, od16, .func (PySem.W.fnOf "is_row" "is_row" (defArgs s_is_row) (defBody s_is_row) (defScope s_is_row) .none kV16 dc16 pm16 an16 cd16 ct16), sl16⟩) (c16 : PySem.W.codeIn K cd16 "is_row" = true) (k16 : PySem.W.keepIn K (.ref f16) = true)
    (a17 : PySem.W.nsIn K mainGlobals "exchange_path_holds" = some (some (.ref f17))) (l17 : K.lookup f17 = some ⟨oc17, od17, .func (PySem.W.fnOf "exchange_path_holds" "exchange_path_holds" (defArgs s_exchange_path_holds) (defBody s_exchange_path_holds) (defScope s_exchange_path_holds) .none kV17 dc17 pm17 an17 cd17 ct17), sl17⟩) (c17 : PySem.W.codeIn K cd17 "exchange_path_holds" = true) (k17 : PySem.W.keepIn K (.ref f17) = true)
    (a18 : PySem.W.nsIn K mainGlobals "_law_values" = some (some (.ref f18))) (l18 : K.lookup f18 = some ⟨oc18, od18, .func (PySem.W.fnOf "_law_values" "_law_values" (defArgs s__law_values) (defBody s__law_values) (defScope s__law_values) .none kV18 dc18 pm18 an18 cd18 ct18), sl18⟩) (c18 : PySem.W.codeIn K cd18 "_law_values" = true) (k18 : PySem.W.keepIn K (.ref f18) = true)
    (a19 : PySem.W.nsIn K mainGlobals "_law_due" = some (some (.ref f19))) (l19 : K.lookup f19 = some ⟨oc19, od19, .func (PySem.W.fnOf "_law_due" "_law_due" (defArgs s__law_due) (defBody s__law_due) (defScope s__law_due) .none kV19 dc19 pm19 an19 cd19 ct19), sl19⟩) (c19 : PySem.W.codeIn K cd19 "_law_due" = true) (k19 : PySem.W.keepIn K (.ref f19) = true)
    (aW : PySem.W.nsIn K mainGlobals "law" = some (some (.ref fW))) (lW : K.lookup fW = some ⟨ocW, odW, .func (PySem.W.fnOf "law" "law" (defArgs s_law) (defBody s_law) (defScope s_law) .none kVW dcW pmW anW cdW ctW), slW⟩) (cW : PySem.W.codeIn K cdW "law" = true) (kW : PySem.W.keepIn K (.ref fW) = true)
    (zlen : PySem.W.nsIn K mainGlobals "len" = some none)
    (zabs : PySem.W.nsIn K mainGlobals "abs" = some none)
    (zint : PySem.W.nsIn K mainGlobals "int" = some none)
    (zrange : PySem.W.nsIn K mainGlobals "range" = some none)
    (zmin : PySem.W.nsIn K mainGlobals "min" = some none)
    (ztuple : PySem.W.nsIn K mainGlobals "tuple" = some none)
    (zsorted : PySem.W.nsIn K mainGlobals "sorted" = some none)
    (zenumerate : PySem.W.nsIn K mainGlobals "enumerate" = some none)
    (zall : PySem.W.nsIn K mainGlobals "all" = some none)
    (zisinstance : PySem.W.nsIn K mainGlobals "isinstance" = some none)
    (zbool : PySem.W.nsIn K mainGlobals "bool" = some none)
    (zlist : PySem.W.nsIn K mainGlobals "list" = some none)
    (zzip : PySem.W.nsIn K mainGlobals "zip" = some none)
    (zrepr : PySem.W.nsIn K mainGlobals "repr" = some none)
    {t_MAX_KEY t_MAX_PLACES : Tok}
    (a_MAX_KEY : PySem.W.nsIn K mainGlobals "MAX_KEY" = some (some (.int 1000000000000 t_MAX_KEY)))
    (a_MAX_PLACES : PySem.W.nsIn K mainGlobals "MAX_PLACES" = some (some (.int 24 t_MAX_PLACES)))
    : ∃ fd : FuncData, (∀ (s : Shared) (v : Value), BindsTo s fd ⟨[v], []⟩ [("_law_script", v)]) ∧ ∀ base : Heap, K.In base → base.Ns mainGlobals mg → FnOkG l.prog w K mg base CX0 7 fa fd ["_law_script"] (spLaw K) := by
  have e := hfa.symm.trans (PySem.W.mg_of X G aW)
  cases e
  have F0 := fun_mk (st := s_law_deal) l0 c0 k0
  have m0 := PySem.W.mg_of X G a0
  have b0 := F0.binds (ps := ["_law_state", "_law_many"]) fun _ _ _ _ _ _ us hl => match us, hl with | [_, _], _ => rfl
  have F1 := fun_mk (st := s_law_open) l1 c1 k1
  have m1 := PySem.W.mg_of X G a1
  have b1 := F1.binds (ps := ["_law_script"]) fun _ _ _ _ _ _ us hl => match us, hl with | [_], _ => rfl
  have F2 := fun_mk (st := s__law_keys) l2 c2 k2
  have m2 := PySem.W.mg_of X G a2
  have b2 := F2.binds (ps := ["_law_state", "_law_many"]) fun _ _ _ _ _ _ us hl => match us, hl with | [_, _], _ => rfl
  have F3 := fun_mk (st := s__law_row) l3 c3 k3
  have m3 := PySem.W.mg_of X G a3
  have b3 := F3.binds (ps := ["_law_state", "_law_most"]) fun _ _ _ _ _ _ us hl => match us, hl with | [_, _], _ => rfl
  have F4 := fun_mk (st := s__law_lessened) l4 c4 k4
  have m4 := PySem.W.mg_of X G a4
  have b4 := F4.binds (ps := ["_law_state", "_law_row_here", "_law_times"]) fun _ _ _ _ _ _ us hl => match us, hl with | [_, _, _], _ => rfl
  have F5 := fun_mk (st := s__law_drawn) l5 c5 k5
  have m5 := PySem.W.mg_of X G a5
  have b5 := F5.binds (ps := ["_law_state", "_law_other", "_law_times"]) fun _ _ _ _ _ _ us hl => match us, hl with | [_, _, _], _ => rfl
  have F6 := fun_mk (st := s_next_exchange) l6 c6 k6
  have m6 := PySem.W.mg_of X G a6
  have b6 := F6.binds (ps := ["row", "goal"]) fun _ _ _ _ _ _ us hl => match us, hl with | [_, _], _ => rfl
  have F7 := fun_mk (st := s_inversions) l7 c7 k7
  have m7 := PySem.W.mg_of X G a7
  have b7 := F7.binds (ps := ["row"]) fun _ _ _ _ _ _ us hl => match us, hl with | [_], _ => rfl
  have F8 := fun_mk (st := s_is_within) l8 c8 k8
  have m8 := PySem.W.mg_of X G a8
  have b8 := F8.binds (ps := ["one", "other"]) fun _ _ _ _ _ _ us hl => match us, hl with | [_, _], _ => rfl
  have F9 := fun_mk (st := s_after_exchange) l9 c9 k9
  have m9 := PySem.W.mg_of X G a9
  have b9 := F9.binds (ps := ["row", "place"]) fun _ _ _ _ _ _ us hl => match us, hl with | [_, _], _ => rfl
  have F10 := fun_mk (st := s_exchange_path) l10 c10 k10
  have m10 := PySem.W.mg_of X G a10
  have b10 := F10.binds (ps := ["one", "other"]) fun _ _ _ _ _ _ us hl => match us, hl with | [_, _], _ => rfl
  have F11 := fun_mk (st := s_arises_by_exchange) l11 c11 k11
  have m11 := PySem.W.mg_of X G a11
  have b11 := F11.binds (ps := ["row", "before"]) fun _ _ _ _ _ _ us hl => match us, hl with | [_, _], _ => rfl
  have F12 := fun_mk (st := s_is_plain_integer) l12 c12 k12
  have m12 := PySem.W.mg_of X G a12
  have b12 := F12.binds (ps := ["value"]) fun _ _ _ _ _ _ us hl => match us, hl with | [_], _ => rfl
  have F13 := fun_mk (st := s_is_integer_between) l13 c13 k13
  have m13 := PySem.W.mg_of X G a13
  have b13 := F13.binds (ps := ["value", "low", "high"]) fun _ _ _ _ _ _ us hl => match us, hl with | [_, _, _], _ => rfl
  have F14 := fun_mk (st := s_is_key) l14 c14 k14
  have m14 := PySem.W.mg_of X G a14
  have b14 := F14.binds (ps := ["value"]) fun _ _ _ _ _ _ us hl => match us, hl with | [_], _ => rfl
  have F15 := fun_mk (st := s_row_error) l15 c15 k15
  have m15 := PySem.W.mg_of X G a15
  have b15 := F15.binds (ps := ["value"]) fun _ _ _ _ _ _ us hl => match us, hl with | [_], _ => rfl
  have F16 := fun_mk (st := s_is_row) l16 c16 k16
  have m16 := PySem.W.mg_of X G a16
  have b16 := F16.binds (ps := ["value"]) fun _ _ _ _ _ _ us hl => match us, hl with | [_], _ => rfl
  have F17 := fun_mk (st := s_exchange_path_holds) l17 c17 k17
  have m17 := PySem.W.mg_of X G a17
  have b17 := F17.binds (ps := ["one", "other", "value"]) fun _ _ _ _ _ _ us hl => match us, hl with | [_, _, _], _ => rfl
  have F18 := fun_mk (st := s__law_values) l18 c18 k18
  have m18 := PySem.W.mg_of X G a18
  have b18 := F18.binds (ps := ["_law_state", "_law_path"]) fun _ _ _ _ _ _ us hl => match us, hl with | [_, _], _ => rfl
  have F19 := fun_mk (st := s__law_due) l19 c19 k19
  have m19 := PySem.W.mg_of X G a19
  have b19 := F19.binds (ps := ["_law_one", "_law_other", "_law_value"]) fun _ _ _ _ _ _ us hl => match us, hl with | [_, _, _], _ => rfl
  have FW := fun_mk (st := s_law) lW cW kW
  have mW := PySem.W.mg_of X G aW
  have bW := FW.binds (ps := ["_law_script"]) fun _ _ _ _ _ _ us hl => match us, hl with | [_], _ => rfl
  have nlen := PySem.W.mg_none_of X G zlen
  have nabs := PySem.W.mg_none_of X G zabs
  have nint := PySem.W.mg_none_of X G zint
  have nrange := PySem.W.mg_none_of X G zrange
  have nmin := PySem.W.mg_none_of X G zmin
  have ntuple := PySem.W.mg_none_of X G ztuple
  have nsorted := PySem.W.mg_none_of X G zsorted
  have nenumerate := PySem.W.mg_none_of X G zenumerate
  have nall := PySem.W.mg_none_of X G zall
  have nisinstance := PySem.W.mg_none_of X G zisinstance
  have nbool := PySem.W.mg_none_of X G zbool
  have nlist := PySem.W.mg_none_of X G zlist
  have nzip := PySem.W.mg_none_of X G zzip
  have nrepr := PySem.W.mg_none_of X G zrepr
  refine ⟨PySem.W.fnOf "law" "law" (defArgs s_law) (defBody s_law) (defScope s_law) .none kVW dcW pmW anW cdW ctW, fun s v => .of_eq rfl, fun base _ _ => ?_⟩
  have g_MAX_KEY : mg "MAX_KEY" = some (.int 1000000000000 t_MAX_KEY) ∧ RelV (.int 1000000000000) (.int 1000000000000 t_MAX_KEY) := ⟨PySem.W.mg_of X G a_MAX_KEY, ⟨_, rfl⟩⟩
  have g_MAX_PLACES : mg "MAX_PLACES" = some (.int 24 t_MAX_PLACES) ∧ RelV (.int 24) (.int 24 t_MAX_PLACES) := ⟨PySem.W.mg_of X G a_MAX_PLACES, ⟨_, rfl⟩⟩
  have GT := ok_deal (P := l.prog) (w := w) (mg := mg) (base := base) F0
  have GU := ok_open (P := l.prog) (w := w) (mg := mg) (base := base) F1 nlen nabs nint
  have H_take := takeF_D fam2_c GT
  have G__law_keys := ok__law_keys (P := l.prog) (w := w) (mg := mg) (base := base) F2 H_take m0 k0 b0 nrange nmin 
  have G__law_row := ok__law_row (P := l.prog) (w := w) (mg := mg) (base := base) F3 H_take m0 k0 b0 G__law_keys m2 k2 b2 ntuple nlen nint nrange 
  have G__law_lessened := ok__law_lessened (P := l.prog) (w := w) (mg := mg) (base := base) F4 H_take m0 k0 b0 nrange nlen 
  have G__law_drawn := ok__law_drawn (P := l.prog) (w := w) (mg := mg) (base := base) F5 G__law_lessened m4 k4 b4 ntuple nrange 
  have G_next_exchange := ok_next_exchange (P := l.prog) (w := w) (mg := mg) (base := base) F6  nlen nrange 
  have G_inversions := ok_inversions (P := l.prog) (w := w) (mg := mg) (base := base) F7  nsorted ntuple nenumerate 
  have G_is_within := ok_is_within (P := l.prog) (w := w) (mg := mg) (base := base) F8 G_inversions m7 k7 b7 nall 
  have G_after_exchange := ok_after_exchange (P := l.prog) (w := w) (mg := mg) (base := base) F9   
  have G_exchange_path := ok_exchange_path (P := l.prog) (w := w) (mg := mg) (base := base) F10 G_next_exchange m6 k6 b6 G_after_exchange m9 k9 b9 G_is_within m8 k8 b8 ntuple 
  have G_arises_by_exchange := ok_arises_by_exchange (P := l.prog) (w := w) (mg := mg) (base := base) F11 G_after_exchange m9 k9 b9 nlen nrange 
  have G_is_plain_integer := ok_is_plain_integer (P := l.prog) (w := w) (mg := mg) (base := base) F12  nisinstance nbool nint 
  have G_is_integer_between := ok_is_integer_between (P := l.prog) (w := w) (mg := mg) (base := base) F13 G_is_plain_integer m12 k12 b12  
  have G_is_key := ok_is_key (P := l.prog) (w := w) (mg := mg) (base := base) F14 G_is_integer_between m13 k13 b13  g_MAX_KEY
  have G_row_error := ok_row_error (P := l.prog) (w := w) (mg := mg) (base := base) F15 G_is_key m14 k14 b14 nenumerate nlen nisinstance ntuple g_MAX_PLACES
  have G_is_row := ok_is_row (P := l.prog) (w := w) (mg := mg) (base := base) F16 G_row_error m15 k15 b15  
  have G_exchange_path_holds := ok_exchange_path_holds (P := l.prog) (w := w) (mg := mg) (base := base) F17 G_arises_by_exchange m11 k11 b11 G_is_row m16 k16 b16 nlen nrange nall nisinstance ntuple 
  have G__law_values := ok__law_values (P := l.prog) (w := w) (mg := mg) (base := base) F18 H_take m0 k0 b0 nlist nint ntuple nlen 
  have G__law_due := ok__law_due (P := l.prog) (w := w) (mg := mg) (base := base) F19  nzip nrepr nlen nrange nisinstance ntuple 
  exact ok_law FW G_exchange_path_holds m17 k17 b17 G__law_values m18 k18 b18 G__law_due m19 k19 b19 G_exchange_path m10 k10 b10 G__law_drawn m5 k5 b5 H_take m0 k0 b0 G__law_row m3 k3 b3 GU m1 k1 b1 nrange nrepr nisinstance nbool nlen ntuple 
end
end LW
open PySem PySem.W PyProof.Rows
set_option maxRecDepth 100000 in
set_option maxHeartbeats 0 in
theorem PySem.Challenge.cw_oddrounds_k18_exchange_paths_judged_holds : PySem.Challenge.rw_oddrounds_k18_exchange_paths_judged.Holds := by
  w_on; o_law; k_head; (case hw => w_witness2)
  k_fill
  refine KX.walkG (l := PySem.Challenge.rw_oddrounds_k18_exchange_paths_judged) (n := 63) (k := 7) (x := "_law_script") (sp := DX.spLaw) rfl (by decide) rfl ⟨rfl, by decide, by decide⟩ (fun w h Y => PySem.W.kIn_of Y) ?F (fun _ _ a ns hl _ hS => ⟨a, ns, rfl, hS, hl, fun _ => rfl⟩)
  case F =>
    intro w mg fa h KX G hmg
    refine' LW.all_mk KX G hmg ?a0 ?l0 ?c0 ?k0 ?a1 ?l1 ?c1 ?k1 ?a2 ?l2 ?c2 ?k2 ?a3 ?l3 ?c3 ?k3 ?a4 ?l4 ?c4 ?k4 ?a5 ?l5 ?c5 ?k5 ?a6 ?l6 ?c6 ?k6 ?a7 ?l7 ?c7 ?k7 ?a8 ?l8 ?c8 ?k8 ?a9 ?l9 ?c9 ?k9 ?a10 ?l10 ?c10 ?k10 ?a11 ?l11 ?c11 ?k11 ?a12 ?l12 ?c12 ?k12 ?a13 ?l13 ?c13 ?k13 ?a14 ?l14 ?c14 ?k14 ?a15 ?l15 ?c15 ?k15 ?a16 ?l16 ?c16 ?k16 ?a17 ?l17 ?c17 ?k17 ?a18 ?l18 ?c18 ?k18 ?a19 ?l19 ?c19 ?k19 ?aW ?lW ?cW ?kW ?zlen ?zabs ?zint ?zrange ?zmin ?ztuple ?zsorted ?zenumerate ?zall ?zisinstance ?zbool ?zlist ?zzip ?zrepr ?a_MAX_KEY ?a_MAX_PLACES
    (case a0 => k_is); (case l0 => k_is); (case c0 => k_is); (case k0 => k_is); (case a1 => k_is); (case l1 => k_is)
    (case c1 => k_is); (case k1 => k_is); (case a2 => k_is); (case l2 => k_is); (case c2 => k_is); (case k2 => k_is)
    (case a3 => k_is); (case l3 => k_is); (case c3 => k_is); (case k3 => k_is); (case a4 => k_is); (case l4 => k_is)
    (case c4 => k_is); (case k4 => k_is); (case a5 => k_is); (case l5 => k_is); (case c5 => k_is); (case k5 => k_is)
    (case a6 => k_is); (case l6 => k_is); (case c6 => k_is); (case k6 => k_is); (case a7 => k_is); (case l7 => k_is)
    (case c7 => k_is); (case k7 => k_is); (case a8 => k_is); (case l8 => k_is); (case c8 => k_is); (case k8 => k_is)
    (case a9 => k_is); (case l9 => k_is); (case c9 => k_is); (case k9 => k_is); (case a10 => k_is); (case l10 => k_is)
    (case c10 => k_is); (case k10 => k_is); (case a11 => k_is); (case l11 => k_is); (case c11 => k_is); (case k11 => k_is)
    (case a12 => k_is); (case l12 => k_is); (case c12 => k_is); (case k12 => k_is); (case a13 => k_is); (case l13 => k_is)
    (case c13 => k_is); (case k13 => k_is); (case a14 => k_is); (case l14 => k_is); (case c14 => k_is); (case k14 => k_is)
    (case a15 => k_is); (case l15 => k_is); (case c15 => k_is); (case k15 => k_is); (case a16 => k_is); (case l16 => k_is)
    (case c16 => k_is); (case k16 => k_is); (case a17 => k_is); (case l17 => k_is); (case c17 => k_is); (case k17 => k_is)
    (case a18 => k_is); (case l18 => k_is); (case c18 => k_is); (case k18 => k_is); (case a19 => k_is); (case l19 => k_is)
    (case c19 => k_is); (case k19 => k_is); (case aW => k_is); (case lW => k_is); (case cW => k_is); (case kW => k_is)
    (case zlen => k_is); (case zabs => k_is); (case zint => k_is); (case zrange => k_is); (case zmin => k_is); (case ztuple => k_is)
    (case zsorted => k_is); (case zenumerate => k_is); (case zall => k_is); (case zisinstance => k_is); (case zbool => k_is); (case zlist => k_is)
    (case zzip => k_is); (case zrepr => k_is)
    (case a_MAX_KEY => k_is)
    (case a_MAX_PLACES => k_is)
#print axioms PySem.Challenge.cw_oddrounds_k18_exchange_paths_judged_holds

