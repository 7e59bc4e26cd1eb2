import PyProof.Rows.All
import Wide.All
import OpenK.AllK
import Wide.FinOn
import HandS.ForMost
import HandS.Style
import HandS.EndBits
import HandS.Wide
import HandS.SortKw
import HandS.Rev
import HandS.Flow
import PyProof.ReprRoads
import PyProof.TupleOfSeq
import HandS.IsInst
import KE.GoesMore
import HandS.TupAny
import HandS.SetFor
import KE.KExcIs
import HandS.ExcInit
import HandS.ExcField
import HandS.ExcIs
import HandS.TryOnly
import HandS.Iter
import PySem.Challenge.RW_oddrounds_k01_limits_and_errors
set_option Elab.async false
set_option maxRecDepth 100000
set_option maxHeartbeats 4000000
set_option linter.all false
namespace KX
open PySem PySem.Spec L2
open PyProof.Rows hiding St
/-! sorted of a tuple of ints -/
section
variable {prog : Program} {w : World} {A : Around} {E : Value → Shared → Prop} {s : Shared}
theorem sortSeq {kw : List (Str × Value)} {b : Bool} {l : Addr} {T : String} {o : Obj} {vs : List Value} {n : Nat} {ns : List Int} {Q : Value → Shared → Prop}
    (hT : T = "list" ∨ T = "tuple") (ho : s.heap.get? l = some o) (hc : o.cls = .type T) (hd : o.data = .seq vs.toArray n) (hz : vs.length ≤ sizeLine) (hI : IntsAre vs ns)
    (hk : ∀ a, Builtin.«list.sort» ⟨[.ref a], kw⟩ = Builtin.«list.sort» ⟨[.ref a], [(Str.ofString "reverse", .bool b)]⟩)
    (ha1 : argsOk "sorted" ⟨[.ref l], kw⟩) (ha2 : ∀ a, argsOk "list.sort" ⟨[a], kw⟩)
    (h : ∀ (h1 h' : Heap) (p : Addr) (out : List Value) (ns' : List Int) (e : Nat), (∀ c u, s.heap.get? c = some u → h1.get? c = some u) → (∀ c u, h1.get? c = some u → h'.get? c = some u) → h1.objs.size ≤ p → h'.get? p = some (seqObj "list" out.toArray e) → IntsAre out ns' → ns'.Perm ns → OrdB b ns' →
      Q (.ref p) { s with heap := h' }) :
    wpAny (model prog w) A (call (.builtin "sorted") [.ref l] kw) Q E s := by
  refine call_function_entry_kw kind_sorted plain_sorted entry_sorted ha1 ?_
  unfold Builtin.«sorted»; refine wpAny_bind (m := checkCount "sorted" 1 1 _) (wpAny_pure ?_)
  refine wpAny_bind (wpAny_collect_seq l hT ho hc hd (fun h1 k1 => ?_) (by rw [List.size_toArray]; exact hz))
  rw [show vs.toArray.toList = vs by simp]
  refine wpAny_bind (wpAny_newList ?_ hz)
  have hp : (h1.push (seqObj "list" vs.toArray 0)).get? h1.objs.size = some (seqObj "list" vs.toArray 0) := Heap.get?_push_size _ rfl
  show wpAny _ _ _ _ _ { s with heap := h1.push (seqObj "list" vs.toArray 0) }
  refine wpAny_bind (wpAny_holding (wpAny_call_entry_kw slot_list_sort ⟨_, hp, rfl⟩ entry_list_sort ?_ (ha2 _)))
  rw [hk]
  refine SrtR.list_sort_ordR SrtO.swo_int hp hz (fun h2 => SrtO.ints_sortable hI h2) fun out hs hb => ⟨_, rfl, ?_⟩
  refine wpAny_pure ⟨_, rfl, ?_⟩
  obtain ⟨ns', i1, i2, i3⟩ := SrtR.ints_outR hI hs hb
  obtain ⟨ep, he⟩ := sortedHeap_at (vs := vs) (out := (if b = true then out.toArray.reverse else out.toArray)) hp
  refine h h1 _ _ (if b = true then out.toArray.reverse else out.toArray).toList ns' ep k1 (fun c u q => ?_) (Nat.le_refl _) (by rw [Array.toArray_toList]; exact he) i1 i2 i3
  have lt := Heap.lt_size q
  rw [sortedHeap_old (Nat.ne_of_lt lt) (by rw [size_push']; exact Nat.lt_succ_of_lt lt)]
  exact Heap.get?_push_of_some _ q
end

section
variable {X : Cx}
/-- sorted(t), sorted(t, reverse=b), t a tuple or a list of ints -/
def rSrt (K : PySem.W.Frag) (b : Bool) : List V → Hp → VK → Prop := fun vs H Q => ∃ (a : Addr) (ns : List Int), vs = [V.ref a] ∧ (SqL K H a (ns.map V.int) ∨ SqT K H a (ns.map V.int)) ∧
  ∀ (ns' : List Int) (p : Addr), ns'.Perm ns → OrdB b ns' → H p = none → Q (.ref p) (upd H p (.lst (ns'.map V.int)))
theorem srt_run {b : Bool} {kw : List (Str × Value)} {pins : List (Addr × Obj)} {s : Shared} {σ : St} {H : Hp} {a : Addr} {ns : List Int} {Q : VK} (I : Inv X pins σ H s) (hs : SqL X.K H a (ns.map V.int) ∨ SqT X.K H a (ns.map V.int))
    (hk : ∀ c, Builtin.«list.sort» ⟨[.ref c], kw⟩ = Builtin.«list.sort» ⟨[.ref c], [(Str.ofString "reverse", .bool b)]⟩) (ha1 : argsOk "sorted" ⟨[.ref a], kw⟩) (ha2 : ∀ c, argsOk "list.sort" ⟨[c], kw⟩)
    (q : ∀ (ns' : List Int) (p : Addr), ns'.Perm ns → OrdB b ns' → H p = none → Q (.ref p) (upd H p (.lst (ns'.map V.int)))) :
    wpAny (model X.prog X.w) X.A (call (.builtin "sorted") [.ref a] kw) (EP X pins σ Q) X.xe s := by
  have fin : ∀ (its : List Value), Vals (ns.map V.int) its → (ns.map V.int).length ≤ sizeLine → ∀ (h1 h' : Heap) (p : Addr) (out : List Value) (ns' : List Int) (e : Nat), (∀ c u, s.heap.get? c = some u → h1.get? c = some u) → (∀ c u, h1.get? c = some u → h'.get? c = some u) →
      h1.objs.size ≤ p → h'.get? p = some (seqObj "list" out.toArray e) → IntsAre out ns' → ns'.Perm ns → OrdB b ns' → EP X pins σ Q (.ref p) { s with heap := h' } := by
    intro its rv hz h1 h' p out ns' e k1 k2 hp he i1 i2 i3
    have I1 : Inv X pins σ H { s with heap := h1 } := I.kept (t' := s.toks) k1
    refine ⟨.ref p, upd H p (.lst (ns'.map V.int)), I1.laid (t' := s.toks) k2 hp (show ObjOk X.prog X.w _ h' p (.lst (ns'.map V.int)) from ⟨?_, out, e, vals_of_ints i1, he⟩), rfl, q ns' p i2 i3 (I1.hok.fresh hp)⟩
    rw [List.length_map, i2.length_eq]; rw [List.length_map] at hz; exact hz
  rcases hs with hs | hs
  · obtain ⟨its, rv, pl, hz⟩ := I.list hs
    obtain ⟨o, ho, hc, n, hd⟩ := pl.isList
    exact sortSeq (.inl rfl) ho hc hd (by rw [← rv.length]; exact hz) rv.ints hk ha1 ha2 (fin its rv hz)
  · obtain ⟨its, rv, ⟨o, ho, hc, n, hd⟩, hz⟩ := I.tuple hs
    exact sortSeq (.inr rfl) ho hc hd (by rw [← rv.length]; exact hz) rv.ints hk ha1 ha2 (fin its rv hz)
theorem sort_nokw (a : Addr) : Builtin.«list.sort» ⟨[.ref a], []⟩ = Builtin.«list.sort» ⟨[.ref a], [(Str.ofString "reverse", .bool false)]⟩ := by
  rw [list_sort_rev]
  first | rfl | kernel_rfl
theorem cr_srt : CallR X (.builtin "sorted") (rSrt X.K false) := by
  intro pins s σ H vs us Q I r ⟨a, ns, e, hs, q⟩
  subst e
  rw [Vals.ref1 r]
  exact srt_run I hs sort_nokw (args_sorted1 _) (fun _ => args_list_sort _) q
theorem cr_srtRev {b : Bool} : CallRK X (.builtin "sorted") [Str.ofString "reverse"] (fun vs zs H Q => zs = [.bl b] ∧ rSrt X.K b vs H Q) := by
  intro pins s σ H vs zs us ws Q I r rz ⟨ez, a, ns, e, hs, q⟩
  subst e ez
  rw [Vals.ref1 r]
  obtain ⟨w1, rfl, e1⟩ := vals1 rz
  obtain rfl : w1 = Value.bool b := e1
  exact srt_run I hs (fun _ => rfl) (args_sorted_rev _ _) (fun _ => args_list_sort_rev _ _) q
/-! a list's slice with a step -/
def pickV (xs : List V) (lo hi st : Option Int) : List V := (sliceRange (sliceBounds lo hi st xs.length).1 (sliceBounds lo hi st xs.length).2.1 (sliceBounds lo hi st xs.length).2.2).filterMap (xs[·]?)
theorem vals_pick {xs : List V} {us : List Value} (r : Vals xs us) : ∀ js : List Nat, Vals (js.filterMap (xs[·]?)) (js.filterMap (us[·]?))
  | [] => .nil
  | j :: js => by
    cases e : xs[j]? with
    | none =>
      rw [List.filterMap_cons_none e, List.filterMap_cons_none (r.none_of e)]; exact vals_pick r js
    | some x =>
      obtain ⟨u, hu, rv⟩ := r.get e
      rw [List.filterMap_cons_some e, List.filterMap_cons_some hu]
      exact .cons rv (vals_pick r js)
def tStep (K : PySem.W.Frag) (te : TE) (tl th ts : TO) : TE := fun σ H Q => te σ H fun x H1 => tl σ H1 fun l H2 => th σ H2 fun u H3 => ts σ H3 fun t H4 => t ≠ some 0 ∧ ∃ a xs, x = .ref a ∧ SqL K H4 a xs ∧ ∀ p, H4 p = none → Q (.ref p) (upd H4 p (.lst (pickV xs l u t)))
theorem pe_step {e s1 : Expr} {lo hi : Option Expr} {te : TE} {tl th ts : TO} {p2 pos : Pos} (he : PE X e te) (hl : PO X lo tl) (hu : PO X hi th) (hs : PO X (some s1) ts) : PE X (.Subscript e (.Slice lo hi (some s1) p2) pos) (tStep X.K te tl th ts) := by
  constructor
  intro pins s σ H Q I h
  refine Subscript_ (thn (he.run pins s σ H _ I h) fun v s1 ⟨x, H1, I1, r1, q1⟩ => ?_)
  refine wpAny_Slice (thn (hl.run pins s1 σ H1 _ I1 q1) fun vl s2 ⟨l, H2, I2, pl, q2⟩ => thn (hu.run pins s2 σ H2 _ I2 q2) fun vu s3 ⟨u, H3, I3, pu, q3⟩ => thn (hs.run pins s3 σ H3 _ I3 q3) fun vt s4 ⟨t, H4, I4, pt, hn, a, xs, ex, hx, q⟩ => ?_)
  subst ex
  cases r1
  have I5 : Inv X pins σ H4 { s4 with heap := s4.heap.push { cls := .type "slice", data := .fields #[vl, vu, vt] } } := I4.kept (t' := s4.toks) fun b o z => Heap.get?_push_of_some _ z
  obtain ⟨its, r, ht, hz⟩ := I5.list hx
  have hlen := r.length
  refine tail_any (ops := [.ref a, .ref s4.heap.objs.size]) ht.isList.typeIs (PySem.slot_list_getitem.lookup) ?_ (by with_unfolding_all rfl)
  refine wpAny_getItem_list_slice ht.isList (Heap.IsSliceOf.new _ vl vu vt) pl pu pt hn ?_ (by rw [List.size_toArray]; omega)
  have e1 : slicePick its.toArray l u t = ((sliceRange (sliceBounds l u t xs.length).1 (sliceBounds l u t xs.length).2.1 (sliceBounds l u t xs.length).2.2).filterMap (its[·]?)).toArray := by
    unfold slicePick; rw [List.size_toArray, hlen]; simp
  rw [e1]
  refine ⟨.ref _, _, I5.laid (t' := s4.toks) (o := .lst (pickV xs l u t)) (fun b o z => Heap.get?_push_of_some _ z) (Nat.le_refl _) ⟨?_, _, 0, vals_pick r _, Heap.get?_push_size _ rfl⟩, rfl, q _ (I5.hok.fresh (Nat.le_refl _))⟩
  have h1 := slicePick_size_le its.toArray l u t
  rw [e1, List.size_toArray, List.size_toArray] at h1
  have h2 := (vals_pick r (sliceRange (sliceBounds l u t xs.length).1 (sliceBounds l u t xs.length).2.1 (sliceBounds l u t xs.length).2.2)).length
  unfold pickV; omega
end
end KX

namespace KX
open PySem PySem.Spec L2
open PyProof.Rows hiding St
/-! a def whose callers run no repr: its promise -/
structure FnOkG (P : Program) (w : World) (K : PySem.W.Frag) (mg : Str → Option Value) (base : Heap) (CX : CXT) (k : Nat) (f : Addr) (fd : FuncData) (ps : List Str) (sp : Sp) : Prop where
  len : ∀ vs H Q E, sp vs H Q E → vs.length = ps.length
  run : ∀ (A : Around) (outer : List Env) (s : Shared) (H : Hp) (args : Args) (us : List Value) (vs : List V) (Q : VK) (E : XK), A.guards = some [] → Room k A → Env0 P w K mg base A outer s H → BindsTo s fd args (ps.zip us) → Vals vs us → sp vs H Q E →
    codeAny (model P w) A (.call (.ref f) args) (CR CX outer P w H s Q E) s
theorem FnOk.toG {P : Program} {w : World} {K : PySem.W.Frag} {mg : Str → Option Value} {base : Heap} {CX : CXT} {k : Nat} {f : Addr} {fd : FuncData} {ps : List Str} {sp : Sp} (F : FnOk P w K mg base CX k f fd ps sp) : FnOkG P w K mg base CX k f fd ps sp :=
  ⟨F.len, fun A outer s H args us vs Q E _ => F.run A outer s H args us vs Q E⟩
section
variable {CX : CXT} {P : Program} {w : World} {K : PySem.W.Frag} {mg : Str → Option Value} {base : Heap} {k : Nat} {f : Addr} {N ps : List Str} {sp : Sp}
theorem fnG {name qual : Str} {params : Arguments} {body : List Stmt} {scope : Scope} {dV kV doc pm cdv ct oc : Value} {an od : Option Addr} {osl : Array (Option Value)}
    (lk : K.lookup f = some ⟨oc, od, .func (PySem.W.fnOf name qual params body scope dV kV doc pm an cdv ct), osl⟩) (hcd : PySem.W.codeIn K cdv qual = true) (S : FnScope N ps scope) (len : ∀ vs H Q E, sp vs H Q E → vs.length = ps.length)
    (hbody : ∀ (A : Around) (outer : List Env) (s : Shared) (H : Hp) (vs : List V) (Q : VK) (E : XK), A.guards = some [] → Room k (A.deeper (envOfC qual scope s.heap.objs.size f cdv)) → sp vs H Q E →
      ∃ t, PSs (cxOf CX P w K mg base N qual scope f cdv A outer s H E) body t ∧ t { nx := fun _ H' => Q .non H', rt := Q } (start N vs) H) :
    FnOkG P w K mg base CX (k + 1) f (PySem.W.fnOf name qual params body scope dV kV doc pm an cdv ct) ps sp := by
  constructor
  · exact len
  intro A outer s H args us vs Q E hgd hr e0 hb r hsp
  have hl := len _ _ _ _ hsp
  have KX := e0.mod.kin.keeps fun b o e => (e0.bs b o e).1
  have lim := e0.mod.nolimit.keeps fun b o e => (e0.bs b o e).1
  have hkind : ∀ y ∈ ps.zip us, scope.names.lookup y.1 = some .local ∨ (scope.names.lookup y.1 = some .cell ∧ ((cellsFrom (s.heap.objs.size + 1) scope.names []).lookup y.1).isSome = true) := by
    rintro ⟨n, v⟩ hy
    exact (S.par n (List.of_mem_zip hy).1).imp id fun q => ⟨q, PySem.W.cellsFrom_some _ _ _ (.inl q)⟩
  refine codeAny_call_function hr.depth (KX _ _ lk) rfl S.co S.gen rfl (PySem.W.codeRec_of KX hcd) (hb _ _ _ _ (wpAny_newFunctionEnv_cells S.kind hkind fun env he s1 x => ?_))
  subst he
  obtain ⟨t, ht, hq⟩ := hbody A outer s H vs Q E hgd (hr.deeper _) hsp
  have I := inv_start (CX := CX) (E := E) (qual := qual) (f := f) (cd := cdv) S hr.hd e0 hl r x
  refine ⟨lim.keeps x.toInCall.keep, codeAny_func (wpAny_mono (ht.run [] s1 (start N vs) H _ I hq) (fun fl s' hs => ?_) fun e s' hs => hs)⟩
  cases fl with
  | ret u =>
    obtain ⟨v, σ', H', J, rv, q⟩ := hs
    exact ⟨v, H', J.os, J.bare, J.base, J.hok, rv, q⟩
  | next =>
    obtain ⟨σ', H', J, q⟩ := hs
    exact ⟨V.non, H', J.os, J.bare, J.base, J.hok, rfl, q⟩
  | brk => obtain ⟨_, _, _, q⟩ := hs; exact False.elim q
  | cont => obtain ⟨_, _, _, q⟩ := hs; exact False.elim q
theorem Fun.okG {x qual : Str} {st : Stmt} {fd : FuncData} (F : Fun K x qual st f fd) (S : FnScope N ps (defScope st)) (len : ∀ vs H Q E, sp vs H Q E → vs.length = ps.length)
    (hbody : ∀ (cdv : Value) (A : Around) (outer : List Env) (s : Shared) (H : Hp) (vs : List V) (Q : VK) (E : XK), A.guards = some [] → Room k (A.deeper (envOfC qual (defScope st) s.heap.objs.size f cdv)) → sp vs H Q E →
      ∃ t, PSs (cxOf CX0 P w K mg base N qual (defScope st) f cdv A outer s H E).nox (defBody st) t ∧ t { nx := fun _ H' => Q .non H', rt := Q } (start N vs) H) : FnOkG P w K mg base CX0 (k + 1) f fd ps sp := by
  obtain ⟨oc, od, kV, doc, pm, an, cdv, ct, osl, rfl, lk, hcd⟩ := F.ex
  refine fnG lk hcd S len fun A outer s H vs Q E hgd hr hsp => ?_
  obtain ⟨t, h, q⟩ := hbody cdv A outer s H vs Q E hgd hr hsp
  exact ⟨t, h.nox, q⟩
end
section
variable {X : Cx} {CX : CXT} {k : Nat} {f C : Addr} {fd : FuncData} {ps : List Str} {sp : Sp} {dvs : List V} {ds : List Value} {E : XK} {x m : Str} {p pos : Pos} {e : Expr} {es : List Expr} {t : TA}
theorem pe_callG (F : FnOkG X.prog X.w X.K X.mg X.base CX k f fd ps sp) (hgd : X.A.guards = some []) (hr : Room k X.A) (hg : Gl X x) (hm : X.mg x = some (.ref f)) (hk : PySem.W.keepIn X.K (.ref f) = true) (hb : Binds X.K fd ps ds) (hd : Vals dvs ds) (hx : Passes CX X E)
    (ha : PA X (e :: es) t) (hdb : (x == ("__debug__" : Str)) = false := by decide) (he : starEach (e :: es) X.env = (false, eval e X.env) :: starEach es X.env := by rfl) (hpl : (backTo pos (starEach es X.env)).any (·.1) = false := by rfl) :
    PE X (.Call (.Name x p) (e :: es) [] pos) (tCall sp dvs E t) := by
  constructor
  intro pins s σ H Q I h
  refine wpAny_Call_Name_kw (ld_glob I hg hm (PySem.W.callWith_K (h₀ := X.base) I.ok.mod.kin hk (thn (ha.run pos pins s σ H _ I h) fun us s1 ⟨vs, H1, I1, r, q⟩ => ⟨I1.kIn, ?_⟩) he hpl) hdb)
  have r2 : Vals (vs ++ dvs) (us ++ ds) := r.append hd
  have hl : (us ++ ds).length = ps.length := r2.length.symm.trans (F.len _ _ _ _ q)
  refine wpAny_call (codeAny_mono (F.run X.A X.stack s1 H1 ⟨us, []⟩ (us ++ ds) (vs ++ dvs) Q E hgd hr I1.env0 (hb s1 us I1.kIn hl) r2 q) fun z s' hq => ?_)
  rcases z with e' | fl
  · exact hx pins σ H1 s1 e' s' I1 hq
  · cases fl <;> first | exact I1.after hq | exact False.elim hq
end
/-! repr of data -/
section
variable {X : Cx}
def rRepr (K : PySem.W.Frag) : List V → Hp → VK → Prop := fun vs H Q => ∃ v d, vs = [v] ∧ Dp K H v d ∧ d.hasDict = false ∧ d.showable = true ∧ d.depth ≤ 60 ∧ d.shown.length ≤ sizeLine ∧ Q (.str d.shown) H
theorem cr_repr (hgd : X.A.guards = some []) (hu : X.A.units + 64 < cLine) : CallR X (.builtin "repr") (rRepr X.K) := by
  intro pins s σ H vs us Q I r ⟨v, d, e, hd, hn, hs, h60, hz, q⟩
  subst e
  obtain ⟨u, rfl, rv⟩ := vals1 r
  have fin : ∀ (h' : Heap) (t : Tok) (tk : Nat), (∀ b o, s.heap.get? b = some o → h'.get? b = some o) → EP X pins σ Q (.str d.shown t) { s with heap := h', toks := tk } := fun h' t tk hk => ⟨.str d.shown, H, I.kept hk, ⟨t, rfl⟩, q⟩
  obtain ⟨as, rd⟩ := Dp.reads I d v u hd rv
  cases rd with
  | none => exact P.repr_of_none (fin s.heap _ _ fun _ _ z => z)
  | bool b => exact P.repr_of_bool (by have := fin s.heap s.toks (s.toks + 1) fun _ _ z => z; simpa only [PyData.shown] using this)
  | int i t => exact P.repr_of_int (by simpa [PyData.showable] using hs) (by have := fin s.heap s.toks (s.toks + 1) fun _ _ z => z; simpa only [PyData.shown] using this)
  | str x t => exact P.repr_of_str (by have := fin s.heap s.toks (s.toks + 1) fun _ _ z => z; simpa only [PyData.shown] using this) (by simpa only [PyData.shown] using hz)
  | list h1 h2 h3 h4 => exact repr_of_reads' (.list h1 h2 h3 h4) hs (PyData.noDict_hsm hn) hgd (by omega) (fun _ _ z => z) (fun h' t tk hk => fin h' t tk hk) hz
  | tuple h1 h2 h3 h4 => exact repr_of_reads' (.tuple h1 h2 h3 h4) hs (PyData.noDict_hsm hn) hgd (by omega) (fun _ _ z => z) (fun h' t tk hk => fin h' t tk hk) hz
  | dict h1 h2 h3 h4 h5 => cases hd
end
end KX

namespace KX
open PySem PySem.Spec L2
open PyProof.Rows hiding St
/-! the end of a law whose def runs repr -/
section
variable {P : Program} {w : World} {K : PySem.W.Frag} {mg mb : Str → Option Value} {k : Nat} {fa a : Addr} {fd : FuncData} {x : Str} {sp : Sp} {s1 : Shared} {vs : List Value} {ns : List Int}
abbrev LawEnd (s1 : Shared) : Result → Shared → Prop := fun r s' => r = .ok (.ret (.bool true)) ∧ OldK s1.heap s'.heap ∧ s'.os = s1.os ∧ AllBare s'.gens
theorem law_core (KX : K.In s1.heap) (hns : s1.heap.Ns mainGlobals mg) (hb : s1.heap.Ns builtinsNs mb) (hbb : ∀ y : Str, y ≠ "__name__" → mb y = bootBuiltins y) (hlim : s1.heap.NoLimit) (hg : s1.gens = #[])
    (ha : s1.heap.get? a = some { cls := .type "list", data := .seq vs.toArray }) (hr : Room k callerA)
    (F : ∀ base : Heap, K.In base → base.Ns mainGlobals mg → FnOkG P w K mg base CX0 k fa fd [x] sp) (hbind : ∀ (s : Shared) (u : Value), BindsTo s fd ⟨[u], []⟩ [(x, u)])
    (H : Hp) (hO : Only H) (hok : HOk P w H s1.heap) (hA : ∀ b, H b ≠ none → b = a) (hK : H a ≠ none → K.lookup a = none)
    (hsp : sp [.ref a] H (fun v _ => v = .bl true) fun _ _ _ => False) :
    codeAny (model P w) callerA (.call (.ref fa) ⟨[.ref a], []⟩) (LawEnd s1) s1 := by
  have free : ∀ {b : Addr} {o : Obj} {es : Array DictEntry} {n : Nat}, s1.heap.get? b = some o → o.data = .dict es n → H b = none := by
    intro b o es n e d
    cases q : H b with
    | none => rfl
    | some u =>
      obtain rfl := hA b (by rw [q]; exact nofun)
      rw [ha] at e
      cases e
      exact absurd (show Data.seq vs.toArray _ = Data.dict es n from d) (fun z => nomatch z)
  have hid : ∀ {b : Addr} {m : Str → Option Value}, s1.heap.Ns b m → (hidT s1.heap H).Ns b m := by
    rintro b m ⟨o, es, n, e, d, r⟩
    exact ⟨o, es, n, hidT_get e (free e d), d, r⟩
  have kin : K.In (hidT s1.heap H) := by
    intro b o e
    refine hidT_get (KX b o e) ?_
    cases q : H b with
    | none => rfl
    | some u =>
      obtain rfl := hA b (by rw [q]; exact nofun)
      rw [hK (by rw [q]; exact nofun)] at e
      cases e
  have mod : Mod K mg (hidT s1.heap H) := by
    obtain ⟨mc, z1, z2⟩ := hlim
    exact ⟨kin, hid hns, ⟨mb, hid hb, hbb⟩, mc, hid z1, z2⟩
  have e0 : Env0 P w K mg (hidT s1.heap H) callerA [] s1 H := by
    refine ⟨rfl, mod, fun b o e => of_hidT e, Nat.le_of_eq (hidT_size _ _), trivial, fun b z => ?_, hok, .of_eq hg⟩
    exact absurd (show b ∈ ([] : List Addr) from z) List.not_mem_nil
  refine codeAny_mono ((F _ kin (hid hns)).run callerA [] s1 H ⟨[.ref a], []⟩ [.ref a] [.ref a] _ _ rfl hr e0 (hbind s1 (.ref a)) (.cons rfl .nil) hsp) fun r s' h => ?_
  rcases r with e | fl
  · exact False.elim h
  cases fl with
  | ret u =>
    obtain ⟨v, H', os, bare, un, hok', rv, q⟩ := h
    obtain rfl : v = .bl true := q
    obtain rfl : u = Value.bool true := rv
    refine ⟨rfl, OldK.of_keep fun b o e => ?_, os, bare⟩
    rcases hO b with z | ⟨ob, xs, z⟩
    · exact un.keep b o e z (fun y => absurd (show b ∈ ([] : List Addr) from y) List.not_mem_nil) List.not_mem_nil
    · obtain ⟨e1, _⟩ := hok b _ z
      obtain ⟨e2, _⟩ := hok' b _ (un.frzs b ob _ z)
      exact e2.trans (e1.symm.trans e)
  | next => exact False.elim h
  | brk => exact False.elim h
  | cont => exact False.elim h
theorem law_run (KX : K.In s1.heap) (hns : s1.heap.Ns mainGlobals mg) (hb : s1.heap.Ns builtinsNs mb) (hbb : ∀ y : Str, y ≠ "__name__" → mb y = bootBuiltins y) (hlim : s1.heap.NoLimit) (hg : s1.gens = #[])
    (ha : s1.heap.get? a = some { cls := .type "list", data := .seq vs.toArray }) (hi : IntsAre vs ns) (hl : ns.length ≤ sizeLine) (hr : Room k callerA)
    (F : ∀ base : Heap, K.In base → base.Ns mainGlobals mg → FnOkG P w K mg base CX0 k fa fd [x] sp) (hbind : ∀ (s : Shared) (u : Value), BindsTo s fd ⟨[u], []⟩ [(x, u)])
    (hsp : ∀ H : Hp, SqL K H a (ns.map V.int) → sp [.ref a] H (fun v _ => v = .bl true) fun _ _ _ => False) :
    codeAny (model P w) callerA (.call (.ref fa) ⟨[.ref a], []⟩) (LawEnd s1) s1 := by
  have rv := vals_ints hi
  cases hk : K.lookup a with
  | some o =>
    have e := KX a o hk
    rw [ha] at e
    cases e
    refine law_core KX hns hb hbb hlim hg ha hr F hbind (fun _ => none) (fun _ => .inl rfl) (fun b u z => nomatch (show (none : Option HO) = some u from z)) (fun b z => absurd rfl z) (fun z => absurd rfl z) (hsp _ (.inr ⟨_, vs.toArray, _, hk, rfl, rfl, rfl, ?_, ?_⟩))
    · rw [List.size_toArray, hi.length]; exact hl
    · simpa using rv
  | none =>
    let o : Obj := { cls := .type "list", data := .seq vs.toArray }
    have h1 : ∀ b, b = a → (fun b => if b = a then some (HO.frz o (.lst (ns.map V.int))) else none : Hp) b = some (HO.frz o (.lst (ns.map V.int))) := fun b e => if_pos e
    have h2 : ∀ b, b ≠ a → (fun b => if b = a then some (HO.frz o (.lst (ns.map V.int))) else none : Hp) b = none := fun b e => if_neg e
    generalize (fun b => if b = a then some (HO.frz o (.lst (ns.map V.int))) else none : Hp) = H at h1 h2
    refine law_core KX hns hb hbb hlim hg ha hr F hbind H (fun b => ?_) (fun b u z => ?_) (fun b z => ?_) (fun _ => hk) (hsp H (.inl (.inr ⟨o, h1 a rfl⟩)))
    · rcases Decidable.em (b = a) with e | e
      · exact .inr ⟨_, _, h1 b e⟩
      · exact .inl (h2 b e)
    · rcases Decidable.em (b = a) with e | e
      · rw [h1 b e] at z
        cases z
        subst e
        exact ⟨ha, by rw [List.length_map]; exact hl, vs, _, rv, ha⟩
      · rw [h2 b e] at z
        cases z
    · rcases Decidable.em (b = a) with e | e
      · exact e
      · exact absurd (h2 b e) z
end
theorem walkG {l : PySem.W.OpenLaw} {n k : Nat} {q : Program} {loose : List Str} {XP : (Str → Option Value) → Heap → Prop} {YP : World → Heap → Prop} {d : DefRec} {K : Params → PySem.W.Frag} {sp : PySem.W.Frag → Sp} {x : Str}
    (hn : l.most = some n) (hn2 : n ≤ sizeLine) (hdf : d.params.defaults = []) (hr : Room k callerA) (hY : ∀ (w : World) (h : Heap), YP w h → (K w.params).In h)
    (F : ∀ (w : World) (mg : Str → Option Value) (fa : Addr) (h : Heap), (K w.params).In h → h.Ns mainGlobals mg → mg d.name = some (.ref fa) →
      ∃ fd : FuncData, (∀ (s : Shared) (u : Value), BindsTo s fd ⟨[u], []⟩ [(x, u)]) ∧ ∀ base : Heap, (K w.params).In base → base.Ns mainGlobals mg → FnOkG l.prog w (K w.params) mg base CX0 k fa fd [x] (sp (K w.params)))
    (hsp : ∀ (K : PySem.W.Frag) (H : Hp) (a : Addr) (ns : List Int), ns.length ≤ n → (∀ z ∈ ns, Builtin.Int.intBits z ≤ 1048576) → SqL K H a (ns.map V.int) → sp K [.ref a] H (fun v _ => v = .bl true) fun _ _ _ => False) :
    PySem.W.WalkO q loose XP YP l.row.toRowW d [] (fun f vs => PySem.call f vs) := by
  refine Att.attach_callB hn hdf fun w s₀ s₁ mg mb fa o pm cd doc a vs ns G Y ho hd hcd hmg hobj hints hlen hbits hg => ?_
  obtain ⟨fd, hb, hF⟩ := F w mg fa _ (hY w _ Y) G.T.g hmg
  exact law_run (hY w _ Y) G.T.g G.T.b G.T.builtins G.T.nolimit hg hobj hints (Nat.le_trans hlen hn2) hr hF hb fun H hS => hsp _ H a ns hlen hbits hS
end KX

namespace KX
open PySem PySem.Spec L2
open PyProof.Rows hiding St
/-! the store of draws that every law has -/
def supD (c : Addr) (t b : Int) : List (Key × V) := [(.inr "cells", .ref c), (.inr "turn", .int t), (.inr "blend", .int b)]
theorem kne {x y : Str} (h : x ≠ y) : decide ((Sum.inr x : Key) = Sum.inr y) = false := decide_eq_false fun q => h (Sum.inr.inj q)
theorem keq (x : Str) : decide ((Sum.inr x : Key) = Sum.inr x) = true := decide_eq_true rfl
theorem n1 : ("cells" : Str) ≠ "turn" := by decide +kernel
theorem n2 : ("cells" : Str) ≠ "blend" := by decide +kernel
theorem n3 : ("turn" : Str) ≠ "blend" := by decide +kernel
theorem sup_cells (c : Addr) (t b : Int) : valV (supD c t b) (.inr "cells") = some (.ref c) := by
  unfold valV supD; simp
theorem sup_turn (c : Addr) (t b : Int) : valV (supD c t b) (.inr "turn") = some (.int t) := by
  unfold valV supD; simp [n1]
theorem sup_blend (c : Addr) (t b : Int) : valV (supD c t b) (.inr "blend") = some (.int b) := by
  unfold valV supD; simp [n2, n3]
theorem sup_putT (c : Addr) (t b t' : Int) : putK (supD c t b) (.inr "turn") (.int t') = supD c t' b := by
  unfold supD; simp only [putK]; simp [n1, n3.symm]
theorem sup_putB (c : Addr) (t b b' : Int) : putK (supD c t b) (.inr "blend") (.int b') = supD c t b' := by
  unfold supD; simp only [putK]; simp [n2, n3]
theorem sup_make (c : Addr) (t b : Int) : mergeK [] (supD c t b) = supD c t b := by
  unfold supD mergeK; simp only [List.foldl, putK]; simp [n1, n2, n3]
structure Sup (H : Hp) (d c : Addr) : Prop where
  ex : ∃ (cells : List Int) (t b : Int), H d = some (.dK (supD c t b)) ∧ H c = some (.lst (cells.map V.int)) ∧ cells.length ≤ 63 ∧ 0 ≤ b ∧ b < 2147483647
theorem Sup.ne {H : Hp} {d c : Addr} (h : Sup H d c) : d ≠ c := by
  obtain ⟨_, _, _, h1, h2, _⟩ := h.ex
  exact ne_of h1 h2 (fun z => nomatch z)
/-- all but d and c is as it was -/
def SameX (H H' : Hp) (d c : Addr) : Prop := ∀ b o, b ≠ d → b ≠ c → H b = some o → H' b = some o
theorem SameX.refl (H : Hp) (d c : Addr) : SameX H H d c := fun _ _ _ _ h => h
theorem SameX.trans {H H1 H2 : Hp} {d c : Addr} (a : SameX H H1 d c) (b : SameX H1 H2 d c) : SameX H H2 d c := fun x o h1 h2 h => b x o h1 h2 (a x o h1 h2 h)
theorem SameX.of {H H' : Hp} (d c : Addr) (h : Same H H') : SameX H H' d c := fun b o _ _ e => h b o e
theorem Sup.same {H H' : Hp} {d c : Addr} (h : Sup H d c) (s : Same H H') : Sup H' d c := by
  obtain ⟨cs, t, b, h1, h2, h3⟩ := h.ex
  exact ⟨cs, t, b, s _ _ h1, s _ _ h2, h3⟩
theorem Sup.upd {H : Hp} {d c l : Addr} {o : HO} (h : Sup H d c) (h1 : l ≠ d) (h2 : l ≠ c) : Sup (upd H l o) d c := by
  obtain ⟨cs, t, b, e1, e2, h3⟩ := h.ex
  exact ⟨cs, t, b, by rw [upd_ne h1.symm]; exact e1, by rw [upd_ne h2.symm]; exact e2, h3⟩
theorem Sup.hasD {H : Hp} {d c : Addr} (h : Sup H d c) : H d ≠ none := by
  obtain ⟨cs, t, b, h1, _⟩ := h.ex
  rw [h1]; exact nofun
theorem Sup.hasC {H : Hp} {d c : Addr} (h : Sup H d c) : H c ≠ none := by
  obtain ⟨cs, t, b, _, h1, _⟩ := h.ex
  rw [h1]; exact nofun
theorem same_new {H : Hp} {p : Addr} {o : HO} (h : H p = none) : Same H (upd H p o) := fun b u e => by rw [upd_ne (ne_of_none e h)]; exact e
/-- a draw: 0 ≤ r < m -/
def spTake : Sp := fun vs H Q _ => ∃ (d c : Addr) (m : Int), vs = [.ref d, .int m] ∧ Sup H d c ∧ 0 < m ∧ m < 2 ^ 62 ∧ ∀ (r : Int) (H' : Hp), 0 ≤ r → r < m → Sup H' d c → SameX H H' d c → Q (.int r) H'
/-- a list of at most 63 ints in, the store out -/
def spSupply (K : PySem.W.Frag) : Sp := fun vs H Q _ => ∃ (a : Addr) (ns : List Int), vs = [.ref a] ∧ SqL K H a (ns.map V.int) ∧ ns.length ≤ 63 ∧ ∀ (d c : Addr) (H' : Hp), H d = none → H c = none → Same H H' → Sup H' d c → Q (.ref d) H'
/-- some order of the items -/
def spStir (K : PySem.W.Frag) : Sp := fun vs H Q _ => ∃ (d c a : Addr) (ks : List Int), vs = [.ref d, .ref a] ∧ Sup H d c ∧ SqL K H a (ks.map V.int) ∧ ks.length ≤ 63 ∧
  ∀ (p : Addr) (H' : Hp) (ks' : List Int), ks'.Perm ks → Sup H' d c → SameX H H' d c → H p = none → H' p = some (.lst (ks'.map V.int)) → Q (.ref p) H'
/-- ascending keys -/
def KeysOk (ks : List Int) : Prop := ks.Pairwise (· < ·) ∧ ∀ k ∈ ks, 0 ≤ k ∧ k ≤ 1000000000000
def spKeys : Sp := fun vs H Q _ => ∃ (d c : Addr) (n : Nat), vs = [.ref d, .int (n : Int)] ∧ Sup H d c ∧ 1 ≤ n ∧ n ≤ 30 ∧
  ∀ (p : Addr) (H' : Hp) (ks : List Int), ks.length = n → KeysOk ks → Sup H' d c → SameX H H' d c → H p = none → H' p = some (.lst (ks.map V.int)) → Q (.ref p) H'
/-- a row -/
structure RowOk (row : List Int) : Prop where
  nd : row.Nodup
  key : ∀ k ∈ row, 0 ≤ k ∧ k ≤ 1000000000000
theorem RowOk.of {ks row : List Int} (h : KeysOk ks) (p : row.Perm ks) : RowOk row :=
  ⟨p.nodup_iff.mpr (h.1.imp fun {a b} q => Int.ne_of_lt q), fun k hk => h.2 k (p.mem_iff.mp hk)⟩
def spRow : Sp := fun vs H Q _ => ∃ (d c : Addr) (n : Nat), vs = [.ref d, .int (n : Int)] ∧ Sup H d c ∧ 1 ≤ n ∧ n ≤ 29 ∧
  ∀ (p : Addr) (H' : Hp) (row : List Int), RowOk row → 1 ≤ row.length → row.length ≤ n → Sup H' d c → SameX H H' d c → H p = none → H' p = some (.tup (row.map V.int)) → Q (.ref p) H'
theorem frX {H H' : Hp} {d c b : Addr} (S' : Sup H' d c) (x : SameX H H' d c) (h : H' b = none) : H b = none := by
  cases e : H b with
  | none => rfl
  | some o =>
    rcases Decidable.em (b = d) with z | z
    · exact absurd h (z ▸ S'.hasD)
    · rcases Decidable.em (b = c) with z2 | z2
      · exact absurd h (z2 ▸ S'.hasC)
      · rw [x b o z z2 e] at h; cases h
theorem emod_in {a m : Int} (h : 0 < m) : 0 ≤ a % m ∧ a % m < m := ⟨Int.emod_nonneg a (by omega), Int.emod_lt_of_pos a h⟩
theorem nats62 {m : Int} (h0 : 0 < m) (h : m < 2 ^ 62) : m.natAbs < 2 ^ 62 := by omega
theorem len_pos_cut {xs : List V} : (xs ≠ [] → 0 < xs.length) := List.length_pos_iff.mpr
theorem sup_get {H : Hp} {d : Addr} {kvs : List (Key × V)} {x : Str} {v : V} (hd : H d = some (.dK kvs)) (e : valV kvs (.inr x) = some v) : DGet H d (.str x) (some v) := by
  have h := DGet.k (k := .inr x) hd
  rw [e] at h
  exact h
theorem sup_setT {H : Hp} {d c : Addr} {t b t' : Int} (hd : H d = some (.dK (supD c t b))) : DPut H d (.str "turn") (.int t') (upd H d (.dK (supD c t' b))) := by
  have h := DPut.k (k := .inr "turn") (v := .int t') hd (show 3 < sizeLine by decide)
  rw [sup_putT] at h
  exact h
theorem sup_setB {H : Hp} {d c : Addr} {t b b' : Int} (hd : H d = some (.dK (supD c t b))) : DPut H d (.str "blend") (.int b') (upd H d (.dK (supD c t b'))) := by
  have h := DPut.k (k := .inr "blend") (v := .int b') hd (show 3 < sizeLine by decide)
  rw [sup_putB] at h
  exact h
theorem ix_at {n j : Nat} (h : j < n) : ixN n ((j : Nat) : Int) = some j := by
  unfold ixN; simp; omega
theorem cut_ints (ns : List Int) (lo hi : Option Int) : ∃ ms : List Int, cutV (ns.map V.int) lo hi = ms.map V.int ∧ ms.length ≤ ns.length := by
  unfold cutV
  rw [← List.map_drop, ← List.map_take]
  exact ⟨_, rfl, by rw [List.length_take, List.length_drop]; omega⟩
theorem cut_nat (ks : List Int) (i j : Nat) : cutV (ks.map V.int) (some (i : Int)) (some (j : Int)) = ((ks.take j).drop i).map V.int := by
  unfold cutV
  rw [HT.sIx_nat, HT.sIx_nat, List.map_drop, List.map_take, List.length_map, List.drop_take]
  apply List.ext_getElem?
  intro m
  simp only [List.getElem?_take, List.getElem?_drop, List.getElem?_map]
  by_cases h1 : i ≤ ks.length
  · rw [Nat.min_eq_left h1]
    by_cases h2 : j ≤ ks.length
    · rw [Nat.min_eq_left h2]
    · rw [Nat.min_eq_right (by omega)]
      by_cases h3 : m < ks.length - i
      · rw [if_pos h3, if_pos (by omega)]
      · rw [if_neg h3]
        by_cases h4 : m < j - i
        · rw [if_pos h4, List.getElem?_eq_none (by omega)]; rfl
        · rw [if_neg h4]
  · rw [Nat.min_eq_right (show ks.length ≤ i by omega), if_neg (by omega)]
    by_cases h4 : m < j - i
    · rw [if_pos h4, List.getElem?_eq_none (by omega)]; rfl
    · rw [if_neg h4]
theorem cut_from (ks : List Int) (i : Nat) : cutV (ks.map V.int) (some (i : Int)) none = (ks.drop i).map V.int := by
  have h := cut_nat ks i ks.length
  unfold cutV at h ⊢
  rw [HT.sIx_nat, List.length_map] at h
  rw [HT.sIx_none, List.length_map]
  rw [List.take_length, HT.sIx_nat, Nat.min_self] at h
  rw [HT.sIx_nat]
  exact h
theorem cut_to (ks : List Int) (j : Nat) : cutV (ks.map V.int) none (some (j : Int)) = (ks.take j).map V.int := by
  have h := cut_nat ks 0 j
  rw [List.drop_zero] at h
  unfold cutV at h ⊢
  rw [HT.sIx_none]
  rw [HT.sIx_nat (k := 0), Nat.zero_min] at h
  exact h
theorem pick_ints (ks : List Int) (lo hi st : Option Int) : pickV (ks.map V.int) lo hi st = ((sliceRange (sliceBounds lo hi st ks.length).1 (sliceBounds lo hi st ks.length).2.1 (sliceBounds lo hi st ks.length).2.2).filterMap (ks[·]?)).map V.int := by
  unfold pickV
  rw [List.length_map, List.map_filterMap]
  congr 1
  funext j
  rw [List.getElem?_map]
theorem idx_perm : ∀ n < 31, ((sliceRange (sliceBounds (some 1) none (some 2) n).1 (sliceBounds (some 1) none (some 2) n).2.1 (sliceBounds (some 1) none (some 2) n).2.2 ++
    sliceRange (sliceBounds (some 0) none (some 2) n).1 (sliceBounds (some 0) none (some 2) n).2.1 (sliceBounds (some 0) none (some 2) n).2.2).isPerm (List.range n)) = true := by decide +kernel
theorem range_all (ks : List Int) : (List.range ks.length).filterMap (ks[·]?) = ks := by
  have h : ∀ n, n ≤ ks.length → (List.range n).filterMap (ks[·]?) = ks.take n := by
    intro n
    induction n with
    | zero => intro _; rfl
    | succ n ih =>
      intro hn
      have e : ks[n]? = some ks[n] := List.getElem?_eq_getElem (by omega)
      rw [List.range_succ, List.filterMap_append, ih (by omega), List.filterMap_cons_some e, List.filterMap_nil, List.take_add_one, e]; rfl
  rw [h _ (Nat.le_refl _), List.take_length]
theorem odd_even (ks : List Int) (h : ks.length ≤ 30) : ∃ row : List Int, pickV (ks.map V.int) (some 1) none (some 2) ++ pickV (ks.map V.int) (some 0) none (some 2) = row.map V.int ∧ row.Perm ks := by
  rw [pick_ints, pick_ints, ← List.map_append, ← List.filterMap_append]
  refine ⟨_, rfl, ?_⟩
  have p := (List.isPerm_iff.mp (idx_perm ks.length (by omega))).filterMap (ks[·]?)
  rw [range_all] at p
  exact p
theorem mid_perm (ks : List Int) (j : Nat) : ((ks.take j ++ ((ks.take (j + 3)).drop j).reverse) ++ ks.drop (j + 3)).Perm ks := by
  have e : (ks.take j ++ (ks.take (j + 3)).drop j) ++ ks.drop (j + 3) = ks := by
    have h1 : ks.take j ++ (ks.take (j + 3)).drop j = ks.take (j + 3) := by
      have h2 := List.take_append_drop j (ks.take (j + 3))
      rw [List.take_take, Nat.min_eq_left (by omega)] at h2
      exact h2
    rw [h1, List.take_append_drop]
  have p : ((ks.take j ++ ((ks.take (j + 3)).drop j).reverse) ++ ks.drop (j + 3)).Perm ((ks.take j ++ (ks.take (j + 3)).drop j) ++ ks.drop (j + 3)) :=
    (List.Perm.append_left _ (List.reverse_perm _)).append_right _
  rw [e] at p
  exact p
/-- a comprehension over reversed(t), t a tuple -/
theorem lc_rt {K : PySem.W.Frag} {a : Addr} {xs : List V} {g : TG} {tt : TT} {te : TE} {vs : List Nat} {σ : L2.St} {H1 : Hp} {D : Addr} {Qd : Hp → Prop} (Pv : Nat → Hp → Prop) (h0 : Pv 0 (upd H1 D (.lst []))) (hl : ∀ i H, i ≤ xs.length → Pv i H → SqT K H a xs)
    (hs : ∀ i x H, i < xs.length → xs[xs.length - 1 - i]? = some x → Pv i H → g x (wipe σ vs) H fun σ2 H2 => wipe σ2 vs = wipe σ vs ∧ tt σ2 H2 fun b H3 =>
      if b = true then te σ2 H3 fun y H4 => ∃ acc, H4 D = some (.lst acc) ∧ acc.length < sizeLine ∧ Pv (i + 1) (upd H4 D (.lst (acc ++ [y]))) else Pv (i + 1) H3) (hd : ∀ H, Pv xs.length H → Qd H) :
    ∃ W : Nat → Nat → Hp → Prop, (∃ m, W 0 m (upd H1 D (.lst []))) ∧ ∀ i m H, W i m H →
      ((RT.ItvT K a xs.length).stop i H ∧ Qd H) ∨ ((RT.ItvT K a xs.length).go i H ∧ ∃ Nx : Hp → Prop, (∀ H', Nx H' → ∃ m', m' < m ∧ W (i + 1) m' H') ∧ ∀ x H', (RT.ItvT K a xs.length).yld i H x H' → g x (wipe σ vs) H' fun σ2 H2 => wipe σ2 vs = wipe σ vs ∧ tt σ2 H2 fun b H3 =>
        if b = true then te σ2 H3 fun y H4 => ∃ acc, H4 D = some (.lst acc) ∧ acc.length < sizeLine ∧ Nx (upd H4 D (.lst (acc ++ [y]))) else Nx H3) := by
  refine ⟨fun i m H => m = xs.length - i ∧ i ≤ xs.length ∧ Pv i H, ⟨_, rfl, Nat.zero_le _, h0⟩, ?_⟩
  rintro i m H ⟨rfl, hi, p⟩
  rcases Nat.lt_or_ge i xs.length with lt | ge
  · have q := hl i H hi p
    have e : xs[xs.length - 1 - i]? = some xs[xs.length - 1 - i] := List.getElem?_eq_getElem (by omega)
    refine .inr ⟨⟨lt, xs, _, q, e⟩, Pv (i + 1), fun H' p' => ⟨xs.length - (i + 1), by omega, rfl, lt, p'⟩, ?_⟩
    rintro x H' ⟨rfl, hx⟩
    exact hs i x H' lt (hx xs q) p
  · obtain rfl : i = xs.length := by omega
    exact .inl ⟨ge, hd H p⟩
theorem sameT {K : PySem.W.Frag} {H H' : Hp} {a : Addr} {xs : List V} (e : Same H H') (h : SqT K H a xs) : SqT K H' a xs := by
  rcases h with (h | ⟨o, h⟩) | h
  · exact .inl (.inl (e _ _ h))
  · exact .inl (.inr ⟨o, e _ _ h⟩)
  · exact .inr h
/-- len of a list or tuple -/
def rLenQ (K : PySem.W.Frag) : List V → Hp → VK → Prop := fun xs H Q => ∃ p ys, xs = [.ref p] ∧ (SqL K H p ys ∨ SqT K H p ys) ∧ Q (.int ys.length) H
/-- a pure function of a row -/
def spRowFn (K : PySem.W.Frag) (f : List Int → List Int) : Sp := fun vs H Q _ => ∃ (a : Addr) (row : List Int), vs = [.ref a] ∧ SqT K H a (row.map V.int) ∧ RowOk row ∧ row.length ≤ 29 ∧
  ∀ (p : Addr) (H' : Hp), Same H H' → H p = none → H' p = some (.tup ((f row).map V.int)) → Q (.ref p) H'
theorem getI {ns : List Int} {i : Nat} {y : V} (h : (ns.map V.int)[i]? = some y) : ∃ z, ns[i]? = some z ∧ y = V.int z ∧ i < ns.length := by
  rw [List.getElem?_map] at h
  cases e : ns[i]? with
  | none => rw [e] at h; cases h
  | some z => rw [e] at h; exact ⟨z, rfl, (Option.some.inj h).symm, (List.getElem?_eq_some_iff.mp e).1⟩
theorem take_step {α : Type} {xs : List α} {i : Nat} {x : α} (h : xs[i]? = some x) : xs.take (i + 1) = xs.take i ++ [x] := by
  rw [List.take_add_one, h]; rfl
/-- all that was there stays, at D stands a list -/
def At (H1 H : Hp) (D : Addr) (ys : List V) : Prop := Same H1 H ∧ H D = some (.lst ys)
theorem At.nil {H1 : Hp} {D : Addr} (h : H1 D = none) : At H1 (upd H1 D (.lst [])) D [] := ⟨same_new h, upd_same⟩
theorem At.push {H1 H : Hp} {D : Addr} {ys : List V} (h : H1 D = none) (a : At H1 H D ys) (zs : List V) : At H1 (upd H D (.lst zs)) D zs :=
  ⟨fun b o e => by rw [upd_ne (ne_of_none e h)]; exact a.1 b o e, upd_same⟩
theorem erase_map {α β : Type} (f : α → β) : ∀ (xs : List α) (j : Nat), (xs.map f).eraseIdx j = (xs.eraseIdx j).map f
  | [], _ => rfl
  | _ :: _, 0 => rfl
  | x :: xs, j + 1 => congrArg (f x :: ·) (erase_map f xs j)
theorem erase_perm {α : Type} : ∀ (xs : List α) (j : Nat) (h : j < xs.length), (xs[j] :: xs.eraseIdx j).Perm xs
  | x :: xs, 0, _ => List.Perm.refl _
  | x :: xs, j + 1, h => (List.Perm.swap x _ _).trans ((erase_perm xs j (Nat.lt_of_succ_lt_succ h)).cons x)
/-- data of ints -/
theorem dp_ints {K : PySem.W.Frag} {H : Hp} : ∀ ns : List Int, DpAll K H (ns.map V.int) (ns.map PyData.int)
  | [] => .nil
  | n :: ns => .cons (.int n) (dp_ints ns)
theorem canLay_ints : ∀ ns : List Int, PyData.canLayAll0 (ns.map PyData.int) = true
  | [] => rfl
  | n :: ns => by simp only [List.map_cons, PyData.canLayAll0, PyData.canLay0, canLay_ints ns, Bool.and_self]
theorem depth_ints : ∀ ns : List Int, PyData.depthAll (ns.map PyData.int) = 0
  | [] => rfl
  | n :: ns => by simp only [List.map_cons, PyData.depthAll, PyData.depth, depth_ints ns, Nat.max_self]
theorem shaped_ints (ns : List Int) : SeqAt.shaped (.list (ns.map PyData.int)) = true := by
  simp [SeqAt.shaped, PyData.canLay0, canLay_ints, PyData.depth, depth_ints]
theorem shaped_tints (ns : List Int) : SeqAt.shaped (.tuple (ns.map PyData.int)) = true := by
  simp [SeqAt.shaped, PyData.canLay0, canLay_ints, PyData.depth, depth_ints]
theorem eqv_ints (ns ms : List Int) : PyData.eqv (.list (ns.map PyData.int)) (.list (ms.map PyData.int)) = decide (ns = ms) := by
  simp only [PyData.eqv]; exact PySem.W.ked_eqvAll ns ms
theorem eqv_tints (ns ms : List Int) : PyData.eqv (.tuple (ns.map PyData.int)) (.tuple (ms.map PyData.int)) = decide (ns = ms) := by
  simp only [PyData.eqv]; exact PySem.W.ked_eqvAll ns ms
/-- a list of ints against [], as data -/
theorem nonempty_data {K : PySem.W.Frag} {H : Hp} {a e : Addr} {ns : List Int} {Q : VK} (h1 : SqL K H a (ns.map V.int)) (h2 : SqL K H e []) (q : Q (.bl (!decide (ns = []))) H) : rNeD K (.ref a) (.ref e) H Q := by
  refine ⟨.list (ns.map PyData.int), .list [], .lst h1 (dp_ints ns), .lst h2 .nil, shaped_ints ns, shaped_ints [], ?_⟩
  rw [show PyData.eqv (.list (ns.map PyData.int)) (.list []) = decide (ns = []) from eqv_ints ns []]
  exact q
/-- the last two rows of a draw -/
def tLastDraw : TS := tSeq (sDPut (tVar 0) (tC (V.str "blend"))
    (tOp (rI (fun _ j => 0 < j) fun i j => V.int (i % j)) (tOp (rI0 fun i j => V.int (i + j)) (tOp (rI0 fun i j => V.int (i + j)) (tOp (rI CMul fun i j => V.int (i * j)) (tDGet (tVar 0) (tC (V.str "blend"))) (tC (V.int 48271)))
      (tOp (rI CMul fun i j => V.int (i * j)) (tC (V.int 11)) (tVar 3))) (tC (V.int 5))) (tC (V.int 2147483647))))
  (tRet (tOp (rI (fun _ j => 0 < j) fun i j => V.int (i % j)) (tOp (rI CDiv fun i j => V.int (i / j)) (tOp (rI (fun _ j => 0 < j) fun i j => V.int (i % j))
    (tOp (rI CMul fun i j => V.int (i * j)) (tDGet (tVar 0) (tC (V.str "blend"))) (tDGet (tVar 0) (tC (V.str "blend")))) (tC (V.int 2147483629))) (tC (V.int 32))) (tVar 1)))
theorem last_run {D : Ends} {H H2 : Hp} {d c : Addr} {m t u b2 : Int} {x4 x5 : Option V} {cells : List Int} (hm0 : 0 < m) (hd : H2 d = some (.dK (supD c u b2))) (hc : H2 c = some (.lst (cells.map V.int))) (hl : cells.length ≤ 63) (sx : SameX H H2 d c) (hb0 : 0 ≤ b2) (hb : b2 < 2147483647)
    (k : ∀ (r : Int) (H' : Hp), 0 ≤ r → r < m → Sup H' d c → SameX H H' d c → D.rt (.int r) H') : tLastDraw D [some (.ref d), some (.int m), some (.ref c), some (.int t), x4, x5] H2 := by
  have ndc : d ≠ c := ne_of hd hc (fun z => nomatch z)
  refine ⟨_, rfl, d, _, rfl, sup_get hd (sup_blend c u b2), _, _, rfl, rfl, .inl ⟨by omega, by omega⟩, _, rfl, _, _, rfl, rfl, .inl ⟨by decide, by decide⟩, _, _, rfl, rfl, _, _, rfl, rfl, _, _, rfl, rfl, (by show (0 : Int) < 2147483647; decide), _, rfl, d, _, rfl, sup_setB hd, ?_⟩
  have hb1 := emod_in (a := b2 * 48271 + 11 * t + 5) (m := 2147483647) (by decide)
  generalize (b2 * 48271 + 11 * t + 5) % 2147483647 = b3 at hb1 ⊢
  have hd3 : upd H2 d (.dK (supD c u b3)) d = some (.dK (supD c u b3)) := upd_same
  have hc3 : upd H2 d (.dK (supD c u b3)) c = some (.lst (cells.map V.int)) := by rw [upd_ne ndc.symm]; exact hc
  have sx3 : SameX H (upd H2 d (.dK (supD c u b3))) d c := fun x o h1 h2 e => by rw [upd_ne h1]; exact sx x o h1 h2 e
  refine ⟨_, rfl, d, _, rfl, sup_get hd3 (sup_blend c u b3), _, rfl, d, _, rfl, sup_get hd3 (sup_blend c u b3), _, _, rfl, rfl, .inl ⟨by omega, by omega⟩, _, _, rfl, rfl, (by show (0 : Int) < 2147483629; decide), _, _, rfl, rfl, ⟨by decide, by decide⟩, _, rfl, _, _, rfl, rfl, hm0, ?_⟩
  exact k _ _ (emod_in hm0).1 (emod_in hm0).2 ⟨cells, u, b3, hd3, hc3, hl, hb1.1, hb1.2⟩ sx3
end KX

namespace KX
open PySem PySem.Spec L2
open PyProof.Rows hiding St
/-! data that repr shows -/
structure FineD (d : PyData) (dep B : Nat) : Prop where
  nd : d.hasDict = false
  sh : d.showable = true
  dp : d.depth ≤ dep
  sz : d.shown.length ≤ B
theorem FineD.int {i : Int} (h : i.natAbs < 10 ^ 13) : FineD (.int i) 0 14 := by
  refine ⟨rfl, ?_, Nat.le_refl _, ?_⟩
  · simp only [PyData.showable, decide_eq_true_eq]
    have h2 : i.natAbs < 2 ^ 1920 := Nat.lt_trans h (by decide)
    rcases Nat.eq_zero_or_pos i.natAbs with z | z
    · rw [z]; decide
    · exact (Nat.log2_lt (by omega)).mpr h2
  · show (Str.ofString (toString i)).length ≤ 14
    rw [PySem.ofString_length]; exact int_text_length_le10 (k := 13) (by decide) h
theorem FineD.bool (b : Bool) : FineD (.bool b) 0 5 := ⟨rfl, rfl, Nat.le_refl _, by cases b <;> decide⟩
theorem FineD.none : FineD .none 0 4 := ⟨rfl, rfl, Nat.le_refl _, by decide⟩
theorem FineD.mono {d : PyData} {n m A B : Nat} (h : FineD d n A) (h1 : n ≤ m) (h2 : A ≤ B) : FineD d m B := ⟨h.nd, h.sh, Nat.le_trans h.dp h1, Nat.le_trans h.sz h2⟩
theorem fine_all {dep B : Nat} : ∀ {ds : List PyData}, (∀ d ∈ ds, FineD d dep B) → PyData.hasDictAll ds = false ∧ PyData.showableAll ds = true ∧ PyData.depthAll ds ≤ dep ∧ ((PyData.shownAll ds).map (·.length)).sum ≤ ds.length * B ∧ (PyData.shownAll ds).length = ds.length
  | [], _ => ⟨rfl, rfl, Nat.zero_le _, Nat.zero_le _, rfl⟩
  | d :: ds, h => by
    obtain ⟨a1, a2, a3, a4, a5⟩ := fine_all (ds := ds) fun x hx => h x (List.mem_cons_of_mem _ hx)
    have hd := h d List.mem_cons_self
    refine ⟨by simp only [PyData.hasDictAll, hd.nd, a1, Bool.or_self], by simp only [PyData.showableAll, hd.sh, a2, Bool.and_self], ?_, ?_, by simp only [PyData.shownAll, List.length_cons, a5]⟩
    · simp only [PyData.depthAll]; exact Nat.max_le.mpr ⟨hd.dp, a3⟩
    · simp only [PyData.shownAll, List.map_cons, List.sum_cons, List.length_cons]
      have := hd.sz
      rw [Nat.add_mul]; omega
theorem FineD.tup {ds : List PyData} {dep B : Nat} (h : ∀ d ∈ ds, FineD d dep B) : FineD (.tuple ds) (dep + 1) (ds.length * (B + 2) + 3) := by
  obtain ⟨a1, a2, a3, a4, a5⟩ := fine_all h
  refine ⟨by simp only [PyData.hasDict, a1], by simp only [PyData.showable, a2], by simp only [PyData.depth]; omega, ?_⟩
  have := tupleText_len_le (PyData.shownAll ds)
  rw [a5] at this
  simp only [PyData.shown]
  rw [Nat.mul_add]; omega
theorem FineD.lst {ds : List PyData} {dep B : Nat} (h : ∀ d ∈ ds, FineD d dep B) : FineD (.list ds) (dep + 1) (ds.length * (B + 2) + 3) := by
  obtain ⟨a1, a2, a3, a4, a5⟩ := fine_all h
  refine ⟨by simp only [PyData.hasDict, a1], by simp only [PyData.showable, a2], by simp only [PyData.depth]; omega, ?_⟩
  have := listText_len_le (PyData.shownAll ds)
  rw [a5] at this
  simp only [PyData.shown]
  rw [Nat.mul_add]; omega
/-- a tuple of few small ints -/
theorem fine_row {ns : List Int} (hl : ns.length ≤ 60) (h : ∀ k ∈ ns, k.natAbs < 10 ^ 13) : FineD (.tuple (ns.map PyData.int)) 1 1000 := by
  have := FineD.tup (ds := ns.map PyData.int) (dep := 0) (B := 14) fun d hd => by
    obtain ⟨k, hk, rfl⟩ := List.mem_map.mp hd
    exact .int (h k hk)
  rw [List.length_map] at this
  exact this.mono (Nat.le_refl _) (by omega)
theorem rRepr_of {K : PySem.W.Frag} {H : Hp} {v : V} {d : PyData} {dep B : Nat} {Q : VK} (h : Dp K H v d) (f : FineD d dep B) (h1 : dep ≤ 60) (h2 : B ≤ sizeLine) (q : Q (.str d.shown) H) : rRepr K [v] H Q :=
  ⟨v, d, rfl, h, f.nd, f.sh, Nat.le_trans f.dp h1, Nat.le_trans f.sz h2, q⟩
theorem RowOk.small {row : List Int} (h : RowOk row) : ∀ k ∈ row, k.natAbs < 10 ^ 13 := fun k hk => by
  have := h.key k hk
  omega
end KX

namespace KX
open PySem PySem.Spec L2
open PyProof.Rows hiding St
/-! data with small dicts in it -/
def kvA (kvs : List (Str × Int)) : List (Key × V) := kvs.map fun p => (.inr p.1, .int p.2)
def kvD (kvs : List (Str × Int)) : List (PyData × PyData) := kvs.map fun p => (.str p.1, .int p.2)
mutual
inductive Dq (K : PySem.W.Frag) (H : Hp) : V → PyData → Prop
  | non : Dq K H .non .none
  | bl (b : Bool) : Dq K H (.bl b) (.bool b)
  | int (i : Int) : Dq K H (.int i) (.int i)
  | str (x : Str) : Dq K H (.str x) (.str x)
  | lst {a : Addr} {xs : List V} {ds : List PyData} : SqL K H a xs → DqAll K H xs ds → Dq K H (.ref a) (.list ds)
  | tup {a : Addr} {xs : List V} {ds : List PyData} : SqT K H a xs → DqAll K H xs ds → Dq K H (.ref a) (.tuple ds)
  | dct {a : Addr} {kvs : List (Str × Int)} : H a = some (.dK (kvA kvs)) → Dq K H (.ref a) (.dict (kvD kvs))
inductive DqAll (K : PySem.W.Frag) (H : Hp) : List V → List PyData → Prop
  | nil : DqAll K H [] []
  | cons {v : V} {vs : List V} {d : PyData} {ds : List PyData} : Dq K H v d → DqAll K H vs ds → DqAll K H (v :: vs) (d :: ds)
end
mutual
theorem Dq.same {K : PySem.W.Frag} {H H' : Hp} (s : Same H H') : ∀ {v : V} {d : PyData}, Dq K H v d → Dq K H' v d
  | _, _, .non => .non
  | _, _, .bl b => .bl b
  | _, _, .int i => .int i
  | _, _, .str x => .str x
  | _, _, .lst h a => .lst (s.seq h) (DqAll.same s a)
  | _, _, .tup h a => .tup (sameT s h) (DqAll.same s a)
  | _, _, .dct h => .dct (s _ _ h)
theorem DqAll.same {K : PySem.W.Frag} {H H' : Hp} (s : Same H H') : ∀ {vs : List V} {ds : List PyData}, DqAll K H vs ds → DqAll K H' vs ds
  | _, _, .nil => .nil
  | _, _, .cons h t => .cons (Dq.same s h) (DqAll.same s t)
end
theorem dq_ints {K : PySem.W.Frag} {H : Hp} : ∀ ns : List Int, DqAll K H (ns.map V.int) (ns.map PyData.int)
  | [] => .nil
  | n :: ns => .cons (.int n) (dq_ints ns)
section
variable {X : Cx} {pins : List (Addr × Obj)} {σ : L2.St} {H : Hp} {s : Shared}
/-- the entries of such a dict -/
theorem entries_of : ∀ {kvs : List (Str × Int)} {vs : List (Key × Value)} {es : List DictEntry}, KV (kvA kvs) vs → Pairs (mixKind X.prog X.w) es vs →
    Paired (fun (p : Str × Int) (e : DictEntry) => (∃ t, e.key = .str p.1 t) ∧ ∃ t, e.val = .int p.2 t) kvs es
  | [], _, _, r, q => by
    cases r
    cases q
    exact .nil
  | p :: kvs, _, _, r, q => by
    cases r with
    | cons h t =>
      cases q with
      | cons h1 h2 h3 =>
        obtain ⟨e1, tv, e2⟩ := h
        refine .cons ⟨?_, tv, h2.trans e2⟩ (entries_of t h3)
        rw [← e1] at h1
        exact Value.isStrOf_shape h1
theorem keys_read {h : Heap} : ∀ {kvs : List (Str × Int)} {es : List DictEntry}, Paired (fun (p : Str × Int) (e : DictEntry) => (∃ t, e.key = .str p.1 t) ∧ ∃ t, e.val = .int p.2 t) kvs es →
    ReadsAll h (es.map (·.key)) ((kvD kvs).map (·.1)) [] ∧ ReadsAll h (es.map (·.val)) ((kvD kvs).map (·.2)) []
  | _, _, .nil => ⟨.nil, .nil⟩
  | _, _, .cons ⟨⟨t, h1⟩, ⟨u, h2⟩⟩ r => by
    obtain ⟨q1, q2⟩ := keys_read r
    refine ⟨?_, ?_⟩
    · exact .cons (as := []) (bs := []) (Eq.mpr (congrArg (fun z => Reads h z _ []) h1) (.str _ t)) q1
    · exact .cons (as := []) (bs := []) (Eq.mpr (congrArg (fun z => Reads h z _ []) h2) (.int _ u)) q2
/-- the object of such a dict -/
theorem dict_obj (I : Inv X pins σ H s) {a : Addr} {kvs : List (Str × Int)} (h : H a = some (.dK (kvA kvs))) :
    ∃ o es n, s.heap.get? a = some o ∧ o.cls = .type "dict" ∧ o.data = .dict es n ∧ (a == sysModules) = false ∧ ReadsAll s.heap (es.toList.map (·.key)) ((kvD kvs).map (·.1)) [] ∧ ReadsAll s.heap (es.toList.map (·.val)) ((kvD kvs).map (·.2)) [] := by
  obtain ⟨_, hsys, vs, r, o, es, ep, h1, h2, h3, _, h4, _⟩ := dk_of I.hok h
  obtain ⟨q1, q2⟩ := keys_read (h := s.heap) (entries_of r h4)
  exact ⟨o, es, ep, h1, h2.1, h3, hsys, q1, q2⟩
mutual
theorem Dq.reads (I : Inv X pins σ H s) : ∀ (d : PyData) (v : V) (u : Value), Dq X.K H v d → RelV v u → ∃ as, Reads s.heap u d as
  | .none, _, _, h, r => by cases h; cases r; exact ⟨_, .none⟩
  | .bool b, _, _, h, r => by cases h; cases r; exact ⟨_, .bool b⟩
  | .int i, _, _, h, r => by cases h; obtain ⟨t, rfl⟩ := r; exact ⟨_, .int i t⟩
  | .str x, _, _, h, r => by cases h; obtain ⟨t, rfl⟩ := r; exact ⟨_, .str x t⟩
  | .list ds, _, _, h, r => by
    cases h with
    | lst hs ha =>
      cases r
      obtain ⟨its, rv, ⟨o, n, ho, hc, _, hd⟩, _⟩ := I.list hs
      obtain ⟨as, hr⟩ := DqAll.reads I ds _ its ha rv
      exact ⟨_, .list ho hc hd hr⟩
  | .tuple ds, _, _, h, r => by
    cases h with
    | tup hs ha =>
      cases r
      obtain ⟨its, rv, ⟨o, ho, hc, n, hd⟩, _⟩ := I.tuple hs
      obtain ⟨as, hr⟩ := DqAll.reads I ds _ its ha rv
      exact ⟨_, .tuple ho hc hd hr⟩
  | .dict kd, _, _, h, r => by
    cases h with
    | dct h =>
      cases r
      obtain ⟨o, es, n, h1, h2, h3, _, q1, q2⟩ := dict_obj I h
      exact ⟨_, .dict h1 h2 h3 q1 q2⟩
theorem DqAll.reads (I : Inv X pins σ H s) : ∀ (ds : List PyData) (vs : List V) (us : List Value), DqAll X.K H vs ds → Vals vs us → ∃ as, ReadsAll s.heap us ds as
  | [], _, _, h, r => by cases h; cases r; exact ⟨_, .nil⟩
  | d :: ds, _, _, h, r => by
    cases h with
    | cons h1 h2 =>
      cases r with
      | cons r1 r2 =>
        obtain ⟨as, q1⟩ := Dq.reads I d _ _ h1 r1
        obtain ⟨bs, q2⟩ := DqAll.reads I ds _ _ h2 r2
        exact ⟨_, .cons q1 q2⟩
end
/-- no dict in it: the library's way -/
theorem reprK_flat {h : Heap} {prog : Program} {w : World} {v : Value} {d : PyData} {as : List Addr} (r : Reads h v d as) (hn : d.hasDict = false) (hs : d.showable = true) (hz : d.shown.length ≤ sizeLine) : ∃ bs, ReadAtMost h d.depth bs ∧ ReprK prog w bs h d.depth v d.shown :=
  ReprK.of_reads r hs (PyData.noDict_hsm hn) hz
theorem dict_reprs (I : Inv X pins σ H s) {a : Addr} {kvs : List (Str × Int)} (h : H a = some (.dK (kvA kvs))) (hs : (PyData.dict (kvD kvs)).showable = true) (hz : (PyData.dict (kvD kvs)).shown.length ≤ sizeLine) :
    ∃ o es n, s.heap.get? a = some o ∧ o.cls = .type "dict" ∧ o.data = .dict es n ∧ (a == sysModules) = false ∧ ∃ bs, ReadAtMost s.heap (PyData.depthKv (kvD kvs)) bs ∧ ReprEntriesK X.prog X.w bs s.heap (PyData.depthKv (kvD kvs)) es.toList (PyData.shownKv (kvD kvs)) ∧ ∃ as, Reads s.heap (.ref a) (.dict (kvD kvs)) as := by
  obtain ⟨o, es, n, h1, h2, h3, hsys, q1, q2⟩ := dict_obj I h
  have hz' : (dictText (PyData.shownKv (kvD kvs))).length ≤ sizeLine := by simpa only [PyData.shown] using hz
  obtain ⟨hs1, hs2⟩ := PyData.showableKv_split (kvD kvs) (by simpa [PyData.showable] using hs)
  have flat : ∀ (f : Str × Int → PyData), (∀ p, (f p).hasDict = false) → ∀ l : List (Str × Int), PyData.hasDictAll (l.map f) = false := fun f hf l => by
    induction l with
    | nil => rfl
    | cons p l ih => simp only [List.map_cons, PyData.hasDictAll, hf, ih, Bool.or_self]
  have n1 : PyData.hasDictAll ((kvD kvs).map (·.1)) = false := by unfold kvD; rw [List.map_map]; exact flat _ (fun _ => rfl) kvs
  have n2 : PyData.hasDictAll ((kvD kvs).map (·.2)) = false := by unfold kvD; rw [List.map_map]; exact flat _ (fun _ => rfl) kvs
  obtain ⟨b1, hb1, k1⟩ := ReprAllK.of_readsAll (prog := X.prog) (w := X.w) q1 hs1 (fun z => by rw [n1] at z; cases z) (fun t ht => by
    obtain ⟨p, hp, hl⟩ := PyData.shownKv_key_le (kvD kvs) t ht
    exact Nat.le_trans hl (Nat.le_trans (dictText_mem_le hp) hz'))
  obtain ⟨b2, hb2, k2⟩ := ReprAllK.of_readsAll (prog := X.prog) (w := X.w) q2 hs2 (fun z => by rw [n2] at z; cases z) (fun t ht => by
    obtain ⟨p, hp, hl⟩ := PyData.shownKv_val_le (kvD kvs) t ht
    exact Nat.le_trans hl (Nat.le_trans (dictText_mem_le hp) hz'))
  refine ⟨o, es, n, h1, h2, h3, hsys, b1 ++ b2, (hb1.mono (PyData.depthAll_keys_le _)).append (hb2.mono (PyData.depthAll_vals_le _)), ?_, _, .dict h1 h2 h3 q1 q2⟩
  rw [PyData.shownKv_eq]
  exact ReprEntriesK.of_two _ _ _ (k1.more_le (fun _ z => List.mem_append_left _ z) (PyData.depthAll_keys_le _)) (k2.more_le (fun _ z => List.mem_append_right _ z) (PyData.depthAll_vals_le _))
mutual
theorem Dq.reprs (I : Inv X pins σ H s) : ∀ (d : PyData) (v : V) (u : Value), Dq X.K H v d → RelV v u → d.showable = true → d.shown.length ≤ sizeLine → ∃ bs, ReadAtMost s.heap d.depth bs ∧ ReprK X.prog X.w bs s.heap d.depth u d.shown
  | .none, v, u, h, r, hs, hz => by obtain ⟨as, q⟩ := Dq.reads I _ _ _ h r; exact reprK_flat q rfl hs hz
  | .bool b, v, u, h, r, hs, hz => by obtain ⟨as, q⟩ := Dq.reads I _ _ _ h r; exact reprK_flat q rfl hs hz
  | .int i, v, u, h, r, hs, hz => by obtain ⟨as, q⟩ := Dq.reads I _ _ _ h r; exact reprK_flat q rfl hs hz
  | .str x, v, u, h, r, hs, hz => by obtain ⟨as, q⟩ := Dq.reads I _ _ _ h r; exact reprK_flat q rfl hs hz
  | .list ds, v, u, h, r, hs, hz => by
    cases h with
    | @lst a xs ds hl ha =>
      cases r
      obtain ⟨its, rv, ⟨o, n, ho, hc, _, hd⟩, _⟩ := I.list hl
      obtain ⟨as, hr⟩ := DqAll.reads I ds _ its ha rv
      obtain ⟨bs, hb, hk⟩ := DqAll.reprs I ds _ its ha rv (by simpa [PyData.showable] using hs) fun t ht => Nat.le_trans (listText_mem_le ht) (by simpa only [PyData.shown] using hz)
      have q : Reads s.heap (.ref a) (.list ds) _ := .list ho hc hd hr
      have hna : a ∉ bs := not_mem_of_deeper q (by simp only [PyData.depth]; omega) hb
      refine ⟨a :: bs, .cons q (by simp only [PyData.depth]; omega) hb, ?_⟩
      simp only [PyData.depth, PyData.shown]
      cases its with
      | nil =>
        cases rv
        cases ha
        simp only [PyData.shownAll, listText_nil]
        exact ReprK.listEmpty ho hc hd
      | cons y l => exact ReprK.list ho hc hd hna (by simpa using hk.length_eq) fun i z e => hk.item i z (by simpa using e)
  | .tuple ds, v, u, h, r, hs, hz => by
    cases h with
    | @tup a xs ds hl ha =>
      cases r
      obtain ⟨its, rv, ⟨o, ho, hc, n, hd⟩, _⟩ := I.tuple hl
      obtain ⟨as, hr⟩ := DqAll.reads I ds _ its ha rv
      obtain ⟨bs, hb, hk⟩ := DqAll.reprs I ds _ its ha rv (by simpa [PyData.showable] using hs) fun t ht => Nat.le_trans (tupleText_mem_le ht) (by simpa only [PyData.shown] using hz)
      have q : Reads s.heap (.ref a) (.tuple ds) _ := .tuple ho hc hd hr
      have hna : a ∉ bs := not_mem_of_deeper q (by simp only [PyData.depth]; omega) hb
      refine ⟨a :: bs, .cons q (by simp only [PyData.depth]; omega) hb, ?_⟩
      simp only [PyData.depth, PyData.shown]
      exact ReprK.tuple ho hc hd hna hk
  | .dict kd, v, u, h, r, hs, hz => by
    cases h with
    | @dct a kvs h =>
      cases r
      obtain ⟨o, es, n, h1, h2, h3, hsys, bs, hb, hE, as, q⟩ := dict_reprs I h hs hz
      have hna : a ∉ bs := not_mem_of_deeper q (by simp only [PyData.depth]; omega) hb
      refine ⟨a :: bs, .cons q (by simp only [PyData.depth]; omega) hb, ?_⟩
      simp only [PyData.depth, PyData.shown]
      exact ReprK.dict h1 h2 h3 hsys hna hE
theorem DqAll.reprs (I : Inv X pins σ H s) : ∀ (ds : List PyData) (vs : List V) (us : List Value), DqAll X.K H vs ds → Vals vs us → PyData.showableAll ds = true → (∀ t ∈ PyData.shownAll ds, t.length ≤ sizeLine) → ∃ bs, ReadAtMost s.heap (PyData.depthAll ds) bs ∧ ReprAllK X.prog X.w bs s.heap (PyData.depthAll ds) us (PyData.shownAll ds)
  | [], _, _, h, r, _, _ => by
    cases h
    cases r
    exact ⟨[], (fun _ z => nomatch z), .nil⟩
  | d :: ds, _, _, h, r, hs, hz => by
    cases h with
    | cons h1 h2 =>
      cases r with
      | cons r1 r2 =>
        have hs' : d.showable = true ∧ PyData.showableAll ds = true := by simpa [PyData.showableAll] using hs
        obtain ⟨b1, hb1, k1⟩ := Dq.reprs I d _ _ h1 r1 hs'.1 (hz _ (by simp only [PyData.shownAll]; exact List.mem_cons_self))
        obtain ⟨b2, hb2, k2⟩ := DqAll.reprs I ds _ _ h2 r2 hs'.2 fun t ht => hz t (by simp only [PyData.shownAll]; exact List.mem_cons_of_mem _ ht)
        refine ⟨b1 ++ b2, ?_, ?_⟩
        · simp only [PyData.depthAll]
          exact (hb1.mono (Nat.le_max_left _ _)).append (hb2.mono (Nat.le_max_right _ _))
        · simp only [PyData.depthAll, PyData.shownAll]
          exact .cons ((k1.more fun _ z => List.mem_append_left _ z).level_le (Nat.le_max_left _ _)) (k2.more_le (fun _ z => List.mem_append_right _ z) (Nat.le_max_right _ _))
end
end
section
variable {X : Cx}
/-- repr of such data -/
def rReprQ (K : PySem.W.Frag) : List V → Hp → VK → Prop := fun vs H Q => ∃ v d, vs = [v] ∧ Dq K H v d ∧ d.showable = true ∧ d.depth ≤ 60 ∧ d.shown.length ≤ sizeLine ∧ Q (.str d.shown) H
theorem cr_reprQ (hgd : X.A.guards = some []) (hu : X.A.units + 64 < cLine) : CallR X (.builtin "repr") (rReprQ X.K) := by
  intro pins s σ H vs us Q I r ⟨v, d, e, hd, hs, h60, hz, q⟩
  subst e
  obtain ⟨u, rfl, rv⟩ := vals1 r
  have fin : ∀ (h' : Heap) (t : Tok) (tk : Nat), (∀ b o, s.heap.get? b = some o → h'.get? b = some o) → EP X pins σ Q (.str d.shown t) { s with heap := h', toks := tk } := fun h' t tk hk => ⟨.str d.shown, H, I.kept hk, ⟨t, rfl⟩, q⟩
  have fin0 := fin s.heap s.toks (s.toks + 1) fun _ _ z => z
  have hg1 : X.A.in1.guards = some [] := hgd
  cases hd with
  | non => cases rv; exact P.repr_of_none fin0
  | bl b => cases rv; exact P.repr_of_bool (by simpa only [PyData.shown] using fin0)
  | int i => obtain ⟨t, rfl⟩ := rv; exact P.repr_of_int (by simpa [PyData.showable] using hs) (by simpa only [PyData.shown] using fin0)
  | str x => obtain ⟨t, rfl⟩ := rv; exact P.repr_of_str (by simpa only [PyData.shown] using fin0) (by simpa only [PyData.shown] using hz)
  | @lst a xs ds hl ha =>
    cases rv
    obtain ⟨its, rv, ⟨o, n, ho, hc, _, hd⟩, _⟩ := I.list hl
    obtain ⟨as, hr⟩ := DqAll.reads I ds _ its ha rv
    have hz' : (listText (PyData.shownAll ds)).length ≤ sizeLine := by simpa only [PyData.shown] using hz
    obtain ⟨bs, hb, hk⟩ := DqAll.reprs I ds _ its ha rv (by simpa [PyData.showable] using hs) fun t ht => Nat.le_trans (listText_mem_le ht) hz'
    have q2 : Reads s.heap (.ref a) (.list ds) _ := .list ho hc hd hr
    have hna : a ∉ bs := not_mem_of_deeper q2 (by simp only [PyData.depth]; omega) hb
    simp only [PyData.depth] at h60
    simp only [PyData.shown] at fin
    refine call_repr_slot (by omega) ⟨o, ho, hc⟩ F.slot_list_repr.toG ?_
    cases its with
    | nil =>
      cases rv
      cases ha
      exact call_list_repr_empty ⟨o, ho, hc⟩ ho hd ⟨_, _, rfl, by have := fin s.heap s.toks (s.toks + 1) fun _ _ z => z; simpa only [PyData.shownAll, listText_nil] using this⟩
    | cons y l => exact call_list_reprK ho hc hd hna (by simpa using hk.length_eq) (fun i z e => hk.item i z (by simpa using e)) hg1 (fun b _ => Clear.nil b) (by show X.A.units + 1 + (_ + 1) < cLine; omega) (fun _ _ z => z) (fun h' t tk hk' => ⟨_, _, rfl, fin h' t tk hk'⟩) hz'
  | @tup a xs ds hl ha =>
    cases rv
    obtain ⟨its, rv, ⟨o, ho, hc, n, hd⟩, _⟩ := I.tuple hl
    obtain ⟨as, hr⟩ := DqAll.reads I ds _ its ha rv
    have hz' : (tupleText (PyData.shownAll ds)).length ≤ sizeLine := by simpa only [PyData.shown] using hz
    obtain ⟨bs, hb, hk⟩ := DqAll.reprs I ds _ its ha rv (by simpa [PyData.showable] using hs) fun t ht => Nat.le_trans (tupleText_mem_le ht) hz'
    have q2 : Reads s.heap (.ref a) (.tuple ds) _ := .tuple ho hc hd hr
    have hna : a ∉ bs := not_mem_of_deeper q2 (by simp only [PyData.depth]; omega) hb
    simp only [PyData.depth] at h60
    simp only [PyData.shown] at fin
    refine call_repr_slot (by omega) ⟨o, ho, hc⟩ F.slot_tuple_repr ?_
    exact call_tuple_reprK ho hc hd hna hk hg1 (fun b _ => Clear.nil b) (by show X.A.units + 1 + (_ + 1) < cLine; omega) (fun _ _ z => z) (fun h' t tk hk' => ⟨_, _, rfl, fin h' t tk hk'⟩) hz'
  | @dct a kvs h =>
    cases rv
    obtain ⟨o, es, n, h1, h2, h3, hsys, bs, hb, hE, as, q2⟩ := dict_reprs I h hs hz
    have hna : a ∉ bs := not_mem_of_deeper q2 (by simp only [PyData.depth]; omega) hb
    have hz' : (dictText (PyData.shownKv (kvD kvs))).length ≤ sizeLine := by simpa only [PyData.shown] using hz
    simp only [PyData.depth] at h60
    simp only [PyData.shown] at fin
    refine call_repr_slot (by omega) ⟨o, h1, h2⟩ F.slot_dict_repr ?_
    exact call_dict_reprK h1 h2 h3 hsys hna hE hg1 (fun b _ => Clear.nil b) (by show X.A.units + 1 + (_ + 1) < cLine; omega) (fun _ _ z => z) (fun h' t tk hk' => ⟨_, _, rfl, fin h' t tk hk'⟩) hz'
end
end KX

namespace KX
open PySem PySem.Spec L2
open PyProof.Rows hiding St
/-! values beside the store -/
def hideX (H : Hp) (d c z : Addr) : Hp := fun b => if b = d ∨ b = c ∨ b = z then none else H b
theorem hide_at {H : Hp} {d c z b : Addr} (h1 : b ≠ d) (h2 : b ≠ c) (h3 : b ≠ z) : hideX H d c z b = H b := if_neg fun q => q.elim h1 fun q => q.elim h2 h3
theorem hide_of {H : Hp} {d c z b : Addr} {o : HO} (h : hideX H d c z b = some o) : b ≠ d ∧ b ≠ c ∧ b ≠ z ∧ H b = some o := by
  unfold hideX at h
  split at h
  · cases h
  · rename_i q
    exact ⟨fun y => q (.inl y), fun y => q (.inr (.inl y)), fun y => q (.inr (.inr y)), h⟩
theorem hide_same {H : Hp} {d c z : Addr} : Same (hideX H d c z) H := fun _ _ h => (hide_of h).2.2.2
theorem hide_mono {H H' : Hp} {d c z : Addr} (x : SameX H H' d c) : Same (hideX H d c z) (hideX H' d c z) := fun b o h => by
  obtain ⟨h1, h2, h3, h4⟩ := hide_of h
  rw [hide_at h1 h2 h3]
  exact x b o h1 h2 h4
/-- the store, and a thing beside it that is not looked at -/
structure SupE (H : Hp) (d c z : Addr) : Prop where
  s : Sup H d c
  z : H z ≠ none
theorem SupE.of {H : Hp} {d c : Addr} (S : Sup H d c) : SupE H d c d := ⟨S, S.hasD⟩
theorem SupE.next {H H' : Hp} {d c z : Addr} (S : SupE H d c z) (S' : Sup H' d c) (x : SameX H H' d c) : SupE H' d c z := by
  refine ⟨S', fun q => ?_⟩
  rcases Decidable.em (z = d) with e | h1
  · exact S'.hasD (e ▸ q)
  rcases Decidable.em (z = c) with e | h2
  · exact S'.hasC (e ▸ q)
  cases e : H z with
  | none => exact S.z e
  | some o => rw [x z o h1 h2 e] at q; cases q
theorem hide_new {H : Hp} {d c z p : Addr} {o : HO} (S : SupE H d c z) (h : H p = none) : hideX (upd H p o) d c z p = some o := by
  have h1 : p ≠ d := fun q => S.s.hasD (q ▸ h)
  have h2 : p ≠ c := fun q => S.s.hasC (q ▸ h)
  have h3 : p ≠ z := fun q => S.z (q ▸ h)
  rw [hide_at h1 h2 h3]; exact upd_same
theorem new_step {H : Hp} {d c z p : Addr} {o : HO} (S : SupE H d c z) (h : H p = none) : SupE (upd H p o) d c z ∧ SameX H (upd H p o) d c ∧ hideX (upd H p o) d c z p = some o :=
  ⟨S.next (S.s.same (same_new h)) (.of d c (same_new h)), .of d c (same_new h), hide_new S h⟩
def Val (K : PySem.W.Frag) (H : Hp) (d c z : Addr) (v : V) (dd : PyData) : Prop := Dq K (hideX H d c z) v dd
theorem Val.mono {K : PySem.W.Frag} {H H' : Hp} {d c z : Addr} {v : V} {dd : PyData} (h : Val K H d c z v dd) (x : SameX H H' d c) : Val K H' d c z v dd := Dq.same (hide_mono x) h
theorem Val.dq {K : PySem.W.Frag} {H : Hp} {d c z : Addr} {v : V} {dd : PyData} (h : Val K H d c z v dd) : Dq K H v dd := Dq.same hide_same h
theorem dqAll_mem {K : PySem.W.Frag} {H : Hp} : ∀ {vs : List V} {ds : List PyData}, DqAll K H vs ds → ∀ v ∈ vs, ∃ dd ∈ ds, Dq K H v dd
  | _, _, .nil, _, h => nomatch h
  | _, _, .cons h t, v, hv => by
    rcases List.mem_cons.mp hv with e | hv
    · subst e; exact ⟨_, List.mem_cons_self, h⟩
    · obtain ⟨dd, h1, h2⟩ := dqAll_mem t v hv
      exact ⟨dd, List.mem_cons_of_mem _ h1, h2⟩
theorem DqAll.app {K : PySem.W.Frag} {H : Hp} : ∀ {vs ws : List V} {ds es : List PyData}, DqAll K H vs ds → DqAll K H ws es → DqAll K H (vs ++ ws) (ds ++ es)
  | _, _, _, _, .nil, h => h
  | _, _, _, _, .cons h t, q => .cons h (DqAll.app t q)
theorem dqAll_len {K : PySem.W.Frag} {H : Hp} : ∀ {vs : List V} {ds : List PyData}, DqAll K H vs ds → vs.length = ds.length
  | _, _, .nil => rfl
  | _, _, .cons _ t => congrArg (· + 1) (dqAll_len t)
/-- what repr asks -/
structure FineQ (d : PyData) (dep B : Nat) : Prop where
  sh : d.showable = true
  dp : d.depth ≤ dep
  sz : d.shown.length ≤ B
theorem FineD.q {d : PyData} {n B : Nat} (h : FineD d n B) : FineQ d n B := ⟨h.sh, h.dp, h.sz⟩
theorem FineQ.mono {d : PyData} {n m A B : Nat} (h : FineQ d n A) (h1 : n ≤ m) (h2 : A ≤ B) : FineQ d m B := ⟨h.sh, Nat.le_trans h.dp h1, Nat.le_trans h.sz h2⟩
theorem fineq_all {dep B : Nat} : ∀ {ds : List PyData}, (∀ d ∈ ds, FineQ d dep B) → PyData.showableAll ds = true ∧ PyData.depthAll ds ≤ dep ∧ ((PyData.shownAll ds).map (·.length)).sum ≤ ds.length * B ∧ (PyData.shownAll ds).length = ds.length
  | [], _ => ⟨rfl, Nat.zero_le _, Nat.zero_le _, rfl⟩
  | d :: ds, h => by
    obtain ⟨a2, a3, a4, a5⟩ := fineq_all (ds := ds) fun x hx => h x (List.mem_cons_of_mem _ hx)
    have hd := h d List.mem_cons_self
    refine ⟨by simp only [PyData.showableAll, hd.sh, a2, Bool.and_self], ?_, ?_, by simp only [PyData.shownAll, List.length_cons, a5]⟩
    · simp only [PyData.depthAll]; exact Nat.max_le.mpr ⟨hd.dp, a3⟩
    · simp only [PyData.shownAll, List.map_cons, List.sum_cons, List.length_cons]
      have := hd.sz
      rw [Nat.add_mul]; omega
theorem FineQ.tup {ds : List PyData} {dep B : Nat} (h : ∀ d ∈ ds, FineQ d dep B) : FineQ (.tuple ds) (dep + 1) (ds.length * (B + 2) + 3) := by
  obtain ⟨a2, a3, a4, a5⟩ := fineq_all h
  refine ⟨by simp only [PyData.showable, a2], by simp only [PyData.depth]; omega, ?_⟩
  have := tupleText_len_le (PyData.shownAll ds)
  rw [a5] at this
  simp only [PyData.shown]
  rw [Nat.mul_add]; omega
theorem FineQ.lst {ds : List PyData} {dep B : Nat} (h : ∀ d ∈ ds, FineQ d dep B) : FineQ (.list ds) (dep + 1) (ds.length * (B + 2) + 3) := by
  obtain ⟨a2, a3, a4, a5⟩ := fineq_all h
  refine ⟨by simp only [PyData.showable, a2], by simp only [PyData.depth]; omega, ?_⟩
  have := listText_len_le (PyData.shownAll ds)
  rw [a5] at this
  simp only [PyData.shown]
  rw [Nat.mul_add]; omega
/-- types -/
def tyN : PyData → String
  | .none => "NoneType" | .bool _ => "bool" | .int _ => "int" | .str _ => "str" | .list _ => "list" | .tuple _ => "tuple" | .dict _ => "dict"
theorem Dq.ty {K : PySem.W.Frag} {H : Hp} {v : V} {dd : PyData} (h : Dq K H v dd) : TyX K H v (.type (tyN dd)) := by
  cases h with
  | non => exact .base .non
  | bl b => exact .base (.bl b)
  | int i => exact .base (.int i)
  | str x => exact .base (.str x)
  | lst h _ =>
    rcases h with (h | ⟨o, h⟩) | ⟨o, _, _, h, hc, _⟩
    · exact .base (.lst h)
    · exact .base (.frz h)
    · exact .kList h hc
  | tup h _ =>
    rcases h with (h | ⟨o, h⟩) | ⟨o, _, _, h, hc, _⟩
    · exact .base (.tup h)
    · exact .fTuple h
    · exact .kTuple h hc
  | dct h => exact .base (.dK h)
def isIntD : PyData → Bool
  | .bool _ => true | .int _ => true | _ => false
def isBoolD : PyData → Bool
  | .bool _ => true | _ => false
def isTupD : PyData → Bool
  | .tuple _ => true | _ => false
theorem kb_int_NoneType : kitB "NoneType" "int" = some false := by decide +kernel
theorem kb_int_bool : kitB "bool" "int" = some true := by decide +kernel
theorem kb_int_int : kitB "int" "int" = some true := by decide +kernel
theorem kb_int_str : kitB "str" "int" = some false := by decide +kernel
theorem kb_int_list : kitB "list" "int" = some false := by decide +kernel
theorem kb_int_tuple : kitB "tuple" "int" = some false := by decide +kernel
theorem kb_int_dict : kitB "dict" "int" = some false := by decide +kernel
theorem kit_int {K : PySem.W.Frag} : ∀ dd : PyData, PySem.W.kitOne K (.type (tyN dd)) (.type "int") = some (isIntD dd)
  | .none => kit_ty kb_int_NoneType | .bool _ => kit_ty kb_int_bool | .int _ => kit_ty kb_int_int | .str _ => kit_ty kb_int_str | .list _ => kit_ty kb_int_list | .tuple _ => kit_ty kb_int_tuple | .dict _ => kit_ty kb_int_dict
theorem kb_bool_NoneType : kitB "NoneType" "bool" = some false := by decide +kernel
theorem kb_bool_bool : kitB "bool" "bool" = some true := by decide +kernel
theorem kb_bool_int : kitB "int" "bool" = some false := by decide +kernel
theorem kb_bool_str : kitB "str" "bool" = some false := by decide +kernel
theorem kb_bool_list : kitB "list" "bool" = some false := by decide +kernel
theorem kb_bool_tuple : kitB "tuple" "bool" = some false := by decide +kernel
theorem kb_bool_dict : kitB "dict" "bool" = some false := by decide +kernel
theorem kit_bool {K : PySem.W.Frag} : ∀ dd : PyData, PySem.W.kitOne K (.type (tyN dd)) (.type "bool") = some (isBoolD dd)
  | .none => kit_ty kb_bool_NoneType | .bool _ => kit_ty kb_bool_bool | .int _ => kit_ty kb_bool_int | .str _ => kit_ty kb_bool_str | .list _ => kit_ty kb_bool_list | .tuple _ => kit_ty kb_bool_tuple | .dict _ => kit_ty kb_bool_dict
theorem kb_tup_NoneType : kitB "NoneType" "tuple" = some false := by decide +kernel
theorem kb_tup_bool : kitB "bool" "tuple" = some false := by decide +kernel
theorem kb_tup_int : kitB "int" "tuple" = some false := by decide +kernel
theorem kb_tup_str : kitB "str" "tuple" = some false := by decide +kernel
theorem kb_tup_list : kitB "list" "tuple" = some false := by decide +kernel
theorem kb_tup_tuple : kitB "tuple" "tuple" = some true := by decide +kernel
theorem kb_tup_dict : kitB "dict" "tuple" = some false := by decide +kernel
theorem kit_tup {K : PySem.W.Frag} : ∀ dd : PyData, PySem.W.kitOne K (.type (tyN dd)) (.type "tuple") = some (isTupD dd)
  | .none => kit_ty kb_tup_NoneType | .bool _ => kit_ty kb_tup_bool | .int _ => kit_ty kb_tup_int | .str _ => kit_ty kb_tup_str | .list _ => kit_ty kb_tup_list | .tuple _ => kit_ty kb_tup_tuple | .dict _ => kit_ty kb_tup_dict
/-- one of the items -/
def spOne (K : PySem.W.Frag) : Sp := fun vs H Q _ => ∃ (d c z a : Addr) (xs : List V), vs = [.ref d, .ref a] ∧ Sup H d c ∧ SqL K (hideX H d c z) a xs ∧ xs ≠ [] ∧ xs.length ≤ 1000 ∧ ∀ (v : V) (H' : Hp), v ∈ xs → Sup H' d c → SameX H H' d c → Q v H'
/-- keys, as data -/
def keyD : PyData → Bool
  | .int i => decide (0 ≤ i) && decide (i ≤ 1000000000000)
  | _ => false
def spIsKey (K : PySem.W.Frag) : Sp := fun vs H Q _ => ∃ (v : V) (dd : PyData), vs = [v] ∧ Dq K H v dd ∧ Q (.bl (keyD dd)) H
def spIsInt (K : PySem.W.Frag) : Sp := fun vs H Q _ => ∃ (v : V) (dd : PyData), vs = [v, .int 0, .int 1000000000000] ∧ Dq K H v dd ∧ Q (.bl (keyD dd)) H
/-- odd values -/
def oddMenu : List PyData := [.none, .bool true, .bool false, .int (-1), .int 0, .int 1, .int 2, .int 1000000000000, .int 1000000000001, .int (10 ^ 39), .str "", .str "0", .str "sorted",
  .str "late 1 1", .str "0: 1", .tuple [], .list [], .dict [], .tuple [.int 0], .list [.int 1], .tuple [.bool true], .tuple [.int 0, .int 0], .tuple [.tuple [.int 1]], .dict [(.str "a", .int 0)], .tuple [.none, .int 1]]
theorem odd_fine : ∀ dd ∈ oddMenu, FineQ dd 2 60 := by
  have h : oddMenu.all (fun dd => dd.showable && decide (dd.depth ≤ 2) && decide (dd.shown.length ≤ 60)) = true := by decide +kernel
  intro dd hd
  have := List.all_eq_true.mp h dd hd
  simp only [Bool.and_eq_true, decide_eq_true_eq] at this
  exact ⟨this.1.1, this.1.2, this.2⟩
def spOdd (K : PySem.W.Frag) : Sp := fun vs H Q _ => ∃ (d c z : Addr), vs = [.ref d] ∧ SupE H d c z ∧ ∀ (v : V) (dd : PyData) (H' : Hp), dd ∈ oddMenu → Val K H' d c z v dd → SupE H' d c z → SameX H H' d c → Q v H'
end KX

namespace KX
open PySem PySem.Spec L2
open PyProof.Rows hiding St
/-! enumerate(t), t a tuple -/
theorem enumNew {v : Value} {o : Obj} {G : Heap → Prop} (B : Begins v o G) :
    Meets (Builtin.«enumerate.__new__» ⟨[.type "enumerate", v], []⟩) (fun _ R s => G s.heap ∧ R (.ok (.ret (.ref (s.heap.push o).objs.size))) { s with heap := (s.heap.push o).push { cls := .type "enumerate", data := .fields #[.none, .bool false, .ref s.heap.objs.size, rawInt 0, .none, .none] } }) :=
  .of_wp fun prog w A R s h => by
    obtain ⟨hp, g, d, tk, os⟩ := s
    obtain ⟨h1, h2⟩ := h
    have sub := sub_enumerate
    have it : ∀ {A' : Around} {E : Value → Shared → Prop} {Q : Value → Shared → Prop}, Q (.ref hp.objs.size) ⟨hp.push o, g, d, tk, os⟩ → wpAny (model prog w) A' (pyIter v) Q E ⟨hp, g, d, tk, os⟩ := fun q => B.iter prog w _ _ ⟨hp, g, d, tk, os⟩ _ h1 q
    wp_walk using it
    refine wpAny_stack_any fun st => wpAny_pure ?_
    split
    · rename_i c _ _ _ _ _
      cases (c == Value.type "enumerate") <;> (wp_walk using it; exact ⟨_, rfl, h2⟩)
    · wp_walk using it
      exact ⟨_, rfl, h2⟩
theorem enumCall {prog : Program} {w : World} {A : Around} {E : Value → Shared → Prop} {s : Shared} {v : Value} {o : Obj} {G : Heap → Prop} {Q : Value → Shared → Prop} (B : Begins v o G) (h1 : G s.heap)
    (h : ∀ h', IsEnum h' (s.heap.objs.size + 1) s.heap.objs.size 0 .none → h'.get? s.heap.objs.size = some o → (∀ b u, s.heap.get? b = some u → h'.get? b = some u) → Q (.ref (s.heap.objs.size + 1)) { s with heap := h' }) :
    wpAny (model prog w) A (call (.type "enumerate") [v]) Q E s := by
  refine callType_new F.called_enumerate (by decide) (F.typeCall_enumerate_1 _) (F.newCall_enumerate_1 _) (fun obj => F.args_object_init_2 obj _) F.entry_enumerate_new (enumNew B) ⟨h1, ?_⟩
  have hz : (s.heap.push o).objs.size = s.heap.objs.size + 1 := Heap.size_push ..
  have he : IsEnum ((s.heap.push o).push { cls := .type "enumerate", data := .fields #[.none, .bool false, .ref s.heap.objs.size, rawInt 0, .none, .none] }) (s.heap.objs.size + 1) s.heap.objs.size 0 .none := by
    have q := Heap.get?_push_size (s.heap.push o) (o := { cls := .type "enumerate", data := .fields #[.none, .bool false, .ref s.heap.objs.size, rawInt 0, .none, .none] }) rfl
    rw [hz] at q
    exact q
  show _ ∧ _
  rw [hz]
  exact ⟨⟨_, he, rfl⟩, h _ he (Heap.get?_push_of_some _ (Heap.get?_push_size _ B.free)) fun b u x => Heap.get?_push_of_some _ (Heap.get?_push_of_some _ x)⟩
/-- the tuple at a, each item in a new pair -/
def IteT (K : PySem.W.Frag) (a : Addr) : It :=
  ⟨fun i H => ∃ (xs : List V) (x : V), SqT K H a xs ∧ xs[i]? = some x, fun i H v H' => ∃ T x, v = .ref T ∧ H T = none ∧ H' = upd H T (.tup [.int (i : Nat), x]) ∧ ∀ xs, SqT K H a xs → xs[i]? = some x, fun i H => ∃ xs : List V, SqT K H a xs ∧ xs.length = i⟩
theorem turnT {P : Program} {w : World} {K : PySem.W.Frag} {elts : List Expr} {kk : Nat} {tpos : Pos} (a e it : Addr) :
    Turn P w K (.Tuple elts kk tpos) (IteT K a) [e, it] e (fun i h => (∃ old, IsEnum h e it ((i : Nat) : Int) old) ∧ h.IsTupleIter it a i ∧ e ≠ it) where
  mem := List.mem_cons_self
  obj := fun i h st b hb => by
    obtain ⟨⟨old, he⟩, ⟨o, ho, hc, hd⟩, _⟩ := st
    rcases List.mem_cons.mp hb with z | z
    · subst z; exact ⟨_, he, fun v q => nomatch q⟩
    · obtain rfl : b = it := List.mem_singleton.mp z
      exact ⟨o, ho, fun v q => by rw [hd] at q; cases q⟩
  keep := fun i h h' st k => by
    obtain ⟨⟨old, he⟩, hi, hne⟩ := st
    exact ⟨⟨old, k e List.mem_cons_self _ he⟩, hi.at fun o q => k it (List.mem_cons_of_mem _ List.mem_cons_self) o q, hne⟩
  item := by
    intro X hP hw hK hc i pins s σ H E I hf st hg
    subst hP hw hK
    obtain ⟨⟨old, he⟩, hit, hne⟩ := st
    obtain ⟨xs, x, hq, hx⟩ := hg
    obtain ⟨its, rv, tp, hz⟩ := I.tuple hq
    obtain ⟨u, hu, ru⟩ := rv.get hx
    have hea : e ≠ a := fun z => by
      obtain ⟨o, h1, h2, _⟩ := tp
      rw [← z, show s.heap.get? e = some _ from he] at h1
      cases h1
      exact absurd (Value.type.inj h2) (by decide)
    have hia : a ≠ it := fun z => by
      obtain ⟨o, h1, h2, _⟩ := tp
      obtain ⟨o', g1, g2, _⟩ := hit
      rw [z, g1] at h1
      cases h1
      rw [g2] at h2
      exact absurd (Value.type.inj h2) (by decide)
    have hel : e < s.heap.objs.size := Heap.lt_size he
    have hil : it < s.heap.objs.size := by obtain ⟨_, q, _⟩ := hit; exact Heap.lt_size q
    have hui : its[i]? = some u := hu
    have hlt : i < its.toArray.size := by rw [List.size_toArray]; exact (List.getElem?_eq_some_iff.mp hui).1
    have D := Draws.tuple (prog := X.prog) (w := X.w) (A := X.A.in1) (I.ok.hd hc) it a hia its.toArray
    refine wpAny_pyNext_enum_itemD (A := X.A) D he ⟨hit, tp⟩ hlt hne (fun z => by
      rcases List.mem_cons.mp z with z | z
      · exact hne z
      · exact hea (List.mem_singleton.mp z)) fun y h' tk hy ho st' hT hsz hk => ?_
    have ey : y = u := by
      have q : its.toArray[i]? = some u := by simpa using hui
      exact Option.some.inj (hy.symm.trans q)
    subst ey
    refine ⟨_, rfl, wpAny_letOwnedTupleGo_enum (s := { s with heap := h', toks := tk + 1 }) ho fun h'' he' sb => ?_⟩
    have hT2 : h''.get? s.heap.objs.size = some { cls := .type "tuple", data := .seq #[.int i tk, y] } := (sb.2 _ (Nat.ne_of_gt hel)).trans hT
    have I1 : Inv X pins σ (upd H s.heap.objs.size (.tup [.int (i : Nat), x])) { s with heap := h'', toks := tk + 1 } := by
      refine I.turnedNew (ch := [e, it]) (fun b ob hb q => ?_) hf (Nat.le_refl _) (show ObjOk X.prog X.w _ h'' _ (.tup [.int (i : Nat), x]) from ⟨by show 2 ≤ sizeLine; decide, [.int i tk, y], .cons ⟨_, rfl⟩ (.cons ru .nil), ⟨_, hT2, rfl, _, rfl⟩⟩)
      have b1 : b ≠ e := fun z => hb (z ▸ List.mem_cons_self)
      have b2 : b ≠ it := fun z => hb (z ▸ List.mem_cons_of_mem _ List.mem_cons_self)
      exact (sb.2 b b1).trans (hk b ob b1 b2 q)
    refine ⟨.ref s.heap.objs.size, _, I1, rfl, ⟨_, x, rfl, I.hok.fresh (Nat.le_refl _), rfl, fun ys hy => by rw [I.tuple_inj hy hq]; exact hx⟩, ⟨⟨y, by rw [show ((i + 1 : Nat) : Int) = (i : Int) + 1 by omega]; exact he'⟩, st'.1.at fun o q => (sb.2 it (Ne.symm hne)).trans q, hne⟩, fun b hb => ?_⟩
    have hb' : b < s.heap.objs.size := by
      rcases List.mem_cons.mp hb with z | z
      · exact z ▸ hel
      · exact (List.mem_singleton.mp z) ▸ hil
    rw [upd_ne (Nat.ne_of_lt hb')]
    exact (hf b hb).1
  done := by
    intro X hP hw hK hc i pins s σ H E I hf st hg
    subst hP hw hK
    obtain ⟨⟨old, he⟩, hit, hne⟩ := st
    obtain ⟨xs, hq, hx⟩ := hg
    obtain ⟨its, rv, tp, hz⟩ := I.tuple hq
    have hia : a ≠ it := fun z => by
      obtain ⟨o, h1, h2, _⟩ := tp
      obtain ⟨o', g1, g2, _⟩ := hit
      rw [z, g1] at h1
      cases h1
      rw [g2] at h2
      exact absurd (Value.type.inj h2) (by decide)
    obtain ⟨f0, f1, f2, f3, f4, f5⟩ := hf it (List.mem_cons_of_mem _ List.mem_cons_self)
    have D := Draws.tuple (prog := X.prog) (w := X.w) (A := X.A.in1) (I.ok.hd hc) it a hia its.toArray
    have en : i = its.toArray.size := by rw [List.size_toArray, ← rv.length, hx]
    rw [en] at hit
    exact wpAny_pyNext_enum_endD (A := X.A) D he ⟨hit, tp⟩ fun h' eb => ⟨rfl, I.turned (t' := s.toks) (fun b o hb q => eb b o hb q) f0 f1 f3 f4 f5⟩
  self := fun A i s Q E st h => by
    obtain ⟨⟨_, he⟩, _⟩ := st
    exact wpAny_pyIter_enum he h
def iEnumT (K : PySem.W.Frag) (ta : TA) : TI := fun σ H R => ta σ H fun vs H1 => ∃ a xs, vs = [.ref a] ∧ SqT K H1 a xs ∧ R (IteT K a) H1
theorem pi_enumT {X : Cx} {e : Expr} {ta : TA} {p pos tpos : Pos} {elts : List Expr} {kk : Nat} (hg : Gl X "enumerate") (hm : X.mg "enumerate" = none) (ha : PA X [e] ta) (hs : starEach [e] X.env = [(false, eval e X.env)] := by rfl) :
    PI X (.Tuple elts kk tpos) (.Call (.Name "enumerate" p) [e] [] pos) (iEnumT X.K ta) := by
  constructor
  intro pins s σ H R I h
  refine Call_ (ld_blt I hg hm boot_enumerate (PyProof.Rows.callWith_type1 (thn (ha.run pos pins s σ H _ I h) fun us s1 ⟨vs, H1, I1, r1, a, xs, ex, hq, q⟩ => ?_) hs rfl))
  subst ex
  obtain ⟨u, rfl, ru⟩ := vals1 r1
  obtain rfl : u = Value.ref a := ru
  obtain ⟨its, rv, tp, hz⟩ := I1.tuple hq
  refine enumCall (begins_tuple a its.toArray) tp fun h' he hit hk => wpAny_pyIter_enum he ?_
  have I2 : Inv X pins σ H1 { s1 with heap := h' } := I1.kept (t' := s1.toks) hk
  refine ⟨s1.heap.objs.size + 1, [s1.heap.objs.size + 1, s1.heap.objs.size], _, _, H1, rfl, I2, turnT a (s1.heap.objs.size + 1) s1.heap.objs.size, ⟨⟨.none, he⟩, ⟨_, hit, rfl, rfl⟩, Nat.succ_ne_self _⟩, fun b hb => ?_, q⟩
  have hle : s1.heap.objs.size ≤ b := by
    rcases List.mem_cons.mp hb with z | z
    · rw [z]; exact Nat.le_succ _
    · rw [List.mem_singleton.mp z]; exact Nat.le_refl _
  exact I1.fpOk hle (I1.hok.fresh hle)
section
variable {K : PySem.W.Frag} {a : Addr} {xs : List V}
theorem for_enumT {g : TG} {tb : TS} {D : Ends} {σ : L2.St} {H : Hp} (Pv : Nat → L2.St → Hp → Prop) (h0 : Pv 0 σ H) (hl : ∀ i σ H, i ≤ xs.length → Pv i σ H → SqT K H a xs)
    (hs : ∀ i x σ H T, xs[i]? = some x → Pv i σ H → H T = none → g (.ref T) σ (upd H T (.tup [.int (i : Nat), x])) fun σ2 H2 => tb { D with nx := Pv (i + 1), ct := Pv (i + 1), bk := D.nx } σ2 H2) (hd : ∀ σ H, Pv xs.length σ H → D.nx σ H) :
    ∃ W : Nat → Nat → L2.St → Hp → Prop, (∃ m, W 0 m σ H) ∧ ∀ i m σ H, W i m σ H →
      ((IteT K a).stop i H ∧ D.nx σ H) ∨ ((IteT K a).go i H ∧ ∃ N : L2.St → Hp → Prop, (∀ σ' H', N σ' H' → ∃ m', m' < m ∧ W (i + 1) m' σ' H') ∧ ∀ x H', (IteT K a).yld i H x H' → g x σ H' fun σ2 H2 => tb { D with nx := N, ct := N, bk := D.nx } σ2 H2) := by
  refine ⟨fun i m σ H => m = xs.length - i ∧ i ≤ xs.length ∧ Pv i σ H, ⟨_, rfl, Nat.zero_le _, h0⟩, ?_⟩
  rintro i m σ H ⟨rfl, hi, p⟩
  have q := hl i σ H hi p
  rcases Nat.lt_or_ge i xs.length with lt | ge
  · refine .inr ⟨⟨xs, _, q, List.getElem?_eq_getElem lt⟩, Pv (i + 1), fun σ' H' p' => ⟨xs.length - (i + 1), by omega, rfl, lt, p'⟩, ?_⟩
    rintro x H' ⟨T, y, rfl, hT, rfl, hy⟩
    exact hs i y σ H T (hy xs q) p hT
  · obtain rfl : i = xs.length := by omega
    exact .inl ⟨⟨xs, q, rfl⟩, hd σ H p⟩
theorem lc_enumT {g : TG} {tt : TT} {te : TE} {vs : List Nat} {σ : L2.St} {H1 : Hp} {D : Addr} {Qd : Hp → Prop} (Pv : Nat → Hp → Prop) (h0 : Pv 0 (upd H1 D (.lst []))) (hl : ∀ i H, i ≤ xs.length → Pv i H → SqT K H a xs)
    (hs : ∀ i x H T, xs[i]? = some x → Pv i H → H T = none → g (.ref T) (wipe σ vs) (upd H T (.tup [.int (i : Nat), x])) fun σ2 H2 => wipe σ2 vs = wipe σ vs ∧ tt σ2 H2 fun b H3 =>
      if b = true then te σ2 H3 fun y H4 => ∃ acc, H4 D = some (.lst acc) ∧ acc.length < sizeLine ∧ Pv (i + 1) (upd H4 D (.lst (acc ++ [y]))) else Pv (i + 1) H3) (hd : ∀ H, Pv xs.length H → Qd H) :
    ∃ W : Nat → Nat → Hp → Prop, (∃ m, W 0 m (upd H1 D (.lst []))) ∧ ∀ i m H, W i m H →
      ((IteT K a).stop i H ∧ Qd H) ∨ ((IteT K a).go i H ∧ ∃ Nx : Hp → Prop, (∀ H', Nx H' → ∃ m', m' < m ∧ W (i + 1) m' H') ∧ ∀ x H', (IteT K a).yld i H x H' → g x (wipe σ vs) H' fun σ2 H2 => wipe σ2 vs = wipe σ vs ∧ tt σ2 H2 fun b H3 =>
        if b = true then te σ2 H3 fun y H4 => ∃ acc, H4 D = some (.lst acc) ∧ acc.length < sizeLine ∧ Nx (upd H4 D (.lst (acc ++ [y]))) else Nx H3) := by
  refine ⟨fun i m H => m = xs.length - i ∧ i ≤ xs.length ∧ Pv i H, ⟨_, rfl, Nat.zero_le _, h0⟩, ?_⟩
  rintro i m H ⟨rfl, hi, p⟩
  have q := hl i H hi p
  rcases Nat.lt_or_ge i xs.length with lt | ge
  · refine .inr ⟨⟨xs, _, q, List.getElem?_eq_getElem lt⟩, Pv (i + 1), fun H' p' => ⟨xs.length - (i + 1), by omega, rfl, lt, p'⟩, ?_⟩
    rintro x H' ⟨T, y, rfl, hT, rfl, hy⟩
    exact hs i y H T (hy xs q) p hT
  · obtain rfl : i = xs.length := by omega
    exact .inl ⟨⟨xs, q, rfl⟩, hd H p⟩
end
end KX

namespace KX
open PySem PySem.Spec L2
open PyProof.Rows hiding St
/-! t[::-1], t a tuple -/
theorem adjust_rev (n : Nat) : Builtin.Slice.sliceAdjust none none (-1) (n : Int) = ((n : Int) - 1, -1) := rfl
theorem places_rev (n : Nat) : Builtin.Slice.slicePlaces ((n : Int) - 1) (-1) (-1) = n := by
  unfold Builtin.Slice.slicePlaces
  rw [if_neg (by decide)]
  by_cases h : (n : Int) - 1 > -1
  · rw [if_pos h]
    have : ((n : Int) - 1 - -1 - 1) / - -1 + 1 = (n : Int) := by
      rw [show (- -1 : Int) = 1 by rfl, Int.ediv_one]; omega
    rw [this]; omega
  · rw [if_neg h]; omega
theorem range_get {α : Type} (ks : List α) : (List.range ks.length).filterMap (ks[·]?) = ks := by
  have h : ∀ n, n ≤ ks.length → (List.range n).filterMap (ks[·]?) = ks.take n := by
    intro n
    induction n with
    | zero => intro _; rfl
    | succ n ih =>
      intro hn
      have e : ks[n]? = some ks[n] := List.getElem?_eq_getElem (by omega)
      rw [List.range_succ, List.filterMap_append, ih (by omega), List.filterMap_cons_some e, List.filterMap_nil, List.take_add_one, e]; rfl
  rw [h _ (Nat.le_refl _), List.take_length]
theorem filterMap_on {α β : Type} {f g : α → Option β} : ∀ {l : List α}, (∀ x ∈ l, f x = g x) → l.filterMap f = l.filterMap g
  | [], _ => rfl
  | x :: l, h => by
    have ih := filterMap_on (l := l) fun y hy => h y (List.mem_cons_of_mem _ hy)
    have hx := h x List.mem_cons_self
    cases e : f x with
    | none => rw [List.filterMap_cons_none e, List.filterMap_cons_none (hx ▸ e), ih]
    | some b => rw [List.filterMap_cons_some e, List.filterMap_cons_some (hx ▸ e), ih]
theorem pick_rev (xs : Array Value) : ((List.range xs.size).filterMap fun (m : Nat) => xs[(((xs.size : Nat) : Int) - 1 + (m : Int) * (-1)).toNat]?).toArray = xs.toList.reverse.toArray := by
  congr 1
  have e := range_get xs.toList.reverse
  rw [List.length_reverse, Array.length_toList] at e
  rw [← e]
  conv => rhs; rw [e]
  refine (filterMap_on fun m hm => ?_).trans e
  have hm' := List.mem_range.mp hm
  rw [List.getElem?_reverse (by rw [Array.length_toList]; exact hm'), Array.getElem?_toList, Array.length_toList]
  congr 1
  omega
section
variable {prog : Program} {w : World} {A : Around} {E : Value → Shared → Prop} {s : Shared}
theorem sliceApplied_rev {sl : Addr} {t : Tok} {n : Nat} {Q : Int × Int × Nat → Shared → Prop} (hs : s.heap.IsSliceOf sl .none .none (.int (-1) t)) (h : Q ((n : Int) - 1, -1, n) s) :
    wpAny (model prog w) A (Builtin.Slice.sliceApplied (.ref sl) (pure (n : Int))) Q E s := by
  obtain ⟨os, hos, hcs, hds⟩ := id hs
  unfold Builtin.Slice.sliceApplied Builtin.Slice.sliceFields
  refine wpAny_bind (wpAny_bind (wpAny_field hos hds (x := .none) rfl (wpAny_bind (wpAny_field hos hds (x := .none) rfl (wpAny_bind (wpAny_field hos hds (x := .int (-1) t) rfl (wpAny_pure ?_)))))))
  refine wpAny_bind (HT.slicePart_ (.int (-1) t) ?_)
  show wpAny _ _ (if ((-1 : Int) == 0) = true then _ else _) _ _ s
  rw [if_neg (by decide)]
  refine wpAny_bind (HT.slicePart_ .none (wpAny_bind (HT.slicePart_ .none (wpAny_bind (wpAny_pure ?_)))))
  show wpAny _ _ (match Builtin.Slice.sliceAdjust none none (-1) (n : Int) with | (lo, hi) => pure (lo, (-1 : Int), Builtin.Slice.slicePlaces lo hi (-1))) _ _ s
  rw [adjust_rev n]
  show wpAny _ _ (pure (((n : Int) - 1), (-1 : Int), Builtin.Slice.slicePlaces ((n : Int) - 1) (-1) (-1))) _ _ s
  rw [places_rev]
  exact wpAny_pure h
theorem getItem_tuple_rev {t sl : Addr} {items : Array Value} {tk : Tok} {Q : Value → Shared → Prop} (ht : IsTup s.heap t items) (hs : s.heap.IsSliceOf sl .none .none (.int (-1) tk))
    (h : Q (.ref s.heap.objs.size) { s with heap := s.heap.push { cls := .type "tuple", data := .seq items.toList.reverse.toArray } }) (hsz : items.size ≤ sizeLine) : wpAny (model prog w) A (getItem (.ref t) (.ref sl)) Q E s := by
  have htake : sizeOk (.seq items.toList.reverse.toArray) := by
    show items.toList.reverse.toArray.size ≤ sizeLine
    rw [List.size_toArray, List.length_reverse, Array.length_toList]; exact hsz
  obtain ⟨os, hos, hcs, hds⟩ := id hs
  have hTs : s.TypeIs (.ref sl) "slice" := ⟨os, hos, hcs⟩
  unfold getItem
  try with_reducible refine wpAny_holding ?_
  first | refine wpAny_bind (wpAny_pure ?_) | skip
  refine wpAny_bind (wpAny_sequenceKey ht.typeIs (by decide) ?_)
  refine wpAny_bind (wpAny_callSpecial?_slot (name := Str.ofString "__getitem__") ht.typeIs PyProof.Rows.slot_tuple_getitem
    (wpAny_call_entry PyProof.Rows.slot_tuple_getitem ht.typeIs entry_tuple_getitem ?_ (args_tuple_getitem _ _)))
  show wpAny _ _ (Builtin.Tuple.tupleItemsOf (.ref t) >>= _) _ _ s
  refine wpAny_bind (tupleItemsOf_ ht ?_)
  refine wpAny_bind (wpAny_typeOf hTs ?_)
  rw [if_pos (by decide)]
  refine wpAny_bind (sliceApplied_rev hs ?_)
  have hno : ¬ (((((items.size : Nat) : Int) - 1) == 0 && (-1 : Int) == 1 && items.size == items.size) = true) := by
    intro q
    rw [Bool.and_eq_true, Bool.and_eq_true] at q
    exact absurd q.1.2 (by decide)
  show wpAny _ _ (if ((((items.size : Nat) : Int) - 1) == 0 && (-1 : Int) == 1 && items.size == items.size) = true then _ else _) _ _ s
  rw [if_neg hno, pick_rev]
  first
    | exact wpAny_bind (m := Builtin.Tuple.tupleExact _) (wpAny_newObj_type (wpAny_pure ⟨_, rfl, wpAny_pure h⟩) htake)
    | exact wpAny_bind (m := Builtin.Tuple.tupleExact _) (wpAny_newObj_type (wpAny_bind (wpAny_pure (wpAny_pure ⟨_, rfl, wpAny_pure h⟩))) htake)
    | exact wpAny_bind (wpAny_bind (m := Builtin.Tuple.tupleExact _) (wpAny_newObj_type (wpAny_pure (wpAny_pure ⟨_, rfl, wpAny_pure h⟩)) htake))
    | exact wpAny_bind (wpAny_bind (m := Builtin.Tuple.tupleExact _) (wpAny_newObj_type (wpAny_pure ⟨_, rfl, wpAny_pure h⟩) htake))
end
section
variable {X : Cx}
theorem vals_rev : ∀ {xs : List V} {us : List Value}, Vals xs us → Vals xs.reverse us.reverse
  | _, _, .nil => .nil
  | _, _, .cons h t => by
    rw [List.reverse_cons, List.reverse_cons]
    exact (vals_rev t).append (.cons h .nil)
def tRevT (K : PySem.W.Frag) (te : TE) (ts : TO) : TE := fun σ H Q => te σ H fun x H1 => ts σ H1 fun t H4 => t = some (-1) ∧ ∃ a xs, x = .ref a ∧ SqT K H4 a xs ∧ ∀ p, H4 p = none → Q (.ref p) (upd H4 p (.tup xs.reverse))
theorem pe_revT {e s1 : Expr} {te : TE} {ts : TO} {p2 pos : Pos} (he : PE X e te) (hs : PO X (some s1) ts) : PE X (.Subscript e (.Slice none none (some s1) p2) pos) (tRevT X.K te ts) := by
  constructor
  intro pins s σ H Q I h
  refine Subscript_ (thn (he.run pins s σ H _ I h) fun v s1 ⟨x, H1, I1, r1, q1⟩ => ?_)
  refine wpAny_Slice ?_
  rw [evalPart_none]
  refine wpAny_pure (wpAny_pure (thn (hs.run pins s1 σ H1 _ I1 q1) fun vt s4 ⟨t, H4, I4, pt, hn, a, xs, ex, hx, q⟩ => ?_))
  subst ex hn
  cases r1
  cases pt with
  | int i tk =>
  have I5 : Inv X pins σ H4 { s4 with heap := s4.heap.push { cls := .type "slice", data := .fields #[.none, .none, .int (-1) tk] } } := I4.kept (t' := s4.toks) fun b o z => Heap.get?_push_of_some _ z
  obtain ⟨its, r, ht, hz⟩ := I5.tuple hx
  have hlen := r.length
  refine tail_any (ops := [.ref a, .ref s4.heap.objs.size]) ht.typeIs (PyProof.Rows.slot_tuple_getitem.lookup) ?_ (by with_unfolding_all rfl)
  refine getItem_tuple_rev ht (Heap.IsSliceOf.new _ .none .none (.int (-1) tk)) ?_ (by rw [List.size_toArray]; omega)
  refine ⟨.ref _, _, I5.laid (t' := s4.toks) (o := .tup xs.reverse) (fun b o z => Heap.get?_push_of_some _ z) (Nat.le_refl _) ⟨?_, _, vals_rev r, IsTup.new _ _⟩, rfl, q _ (I5.hok.fresh (Nat.le_refl _))⟩
  rw [List.length_reverse]; exact hz
end
end KX

namespace KX
open PySem PySem.Spec L2
open PyProof.Rows hiding St
theorem in_ints (z : Int) : ∀ ns : List Int, inV (.int z) (ns.map V.int) = decide (z ∈ ns)
  | [] => by simp [inV]
  | n :: ns => by
    have ih := in_ints z ns
    unfold inV at ih ⊢
    rw [List.map_cons, List.any_cons, ih]
    by_cases h : n = z
    · subst h; simp [eqV]
    · have h2 : ¬ z = n := fun q => h q.symm
      simp [eqV, h, h2]
theorem flat_ints (ns : List Int) : (ns.map V.int).all flatV = true := by
  rw [List.all_map]; exact List.all_eq_true.mpr fun _ _ => rfl
/-- each value is data that repr shows -/
def AllFine (K : PySem.W.Frag) (H : Hp) (xs : List V) : Prop := ∀ v ∈ xs, ∃ dd, Dq K H v dd ∧ FineQ dd 3 10000
theorem AllFine.same {K : PySem.W.Frag} {H H' : Hp} {xs : List V} (s : Same H H') (h : AllFine K H xs) : AllFine K H' xs := fun v hv => by
  obtain ⟨dd, h1, h2⟩ := h v hv
  exact ⟨dd, h1.same s, h2⟩
theorem AllFine.app {K : PySem.W.Frag} {H : Hp} {xs ys : List V} (h1 : AllFine K H xs) (h2 : AllFine K H ys) : AllFine K H (xs ++ ys) := fun v hv => (List.mem_append.mp hv).elim (h1 v) (h2 v)
theorem AllFine.nil {K : PySem.W.Frag} {H : Hp} : AllFine K H [] := fun _ h => nomatch h
theorem AllFine.cons {K : PySem.W.Frag} {H : Hp} {v : V} {xs : List V} {dd : PyData} (h : Dq K H v dd) (f : FineQ dd 3 10000) (r : AllFine K H xs) : AllFine K H (v :: xs) := fun u hu => by
  rcases List.mem_cons.mp hu with e | hu
  · subst e; exact ⟨dd, h, f⟩
  · exact r u hu
theorem AllFine.sub {K : PySem.W.Frag} {H : Hp} {xs ys : List V} (h : AllFine K H xs) (s : ∀ v ∈ ys, v ∈ xs) : AllFine K H ys := fun v hv => h v (s v hv)
theorem fine_ints {K : PySem.W.Frag} {H : Hp} {ns : List Int} (h : ∀ k ∈ ns, k.natAbs < 10 ^ 13) : AllFine K H (ns.map V.int) := fun v hv => by
  obtain ⟨k, hk, rfl⟩ := List.mem_map.mp hv
  exact ⟨.int k, .int k, (FineD.int (h k hk)).q.mono (by decide) (by decide)⟩
theorem fine_num {i : Int} (h0 : 0 ≤ i) (h : i < 10 ^ 13) : FineQ (.str (Str.ofString (toString i))) 0 200 := by
  obtain ⟨m, rfl⟩ := Int.eq_ofNat_of_zero_le h0
  have hs : ∀ c ∈ (Str.ofString (toString (m : Int))).cps.toList, c < 16 ^ 8 := by
    intro c hc
    rw [PySem.W.KIN.signs_num] at hc
    obtain ⟨ch, _, rfl⟩ := List.mem_map.mp hc
    exact ch.val.toNat_lt
  have h1 := StrLaws.reprText_len _ hs
  have h2 : (Str.ofString (toString (m : Int))).length ≤ 14 := by
    rw [PySem.ofString_length]; exact int_text_length_le10 (k := 13) (by decide) (by omega)
  refine ⟨rfl, Nat.zero_le _, ?_⟩
  show (reprText _).length ≤ 200
  omega
/-- parts that a tuple may have -/
def Part (K : PySem.W.Frag) (H : Hp) (v : V) : Prop := ∃ dd, Dq K H v dd ∧ FineQ dd 2 300
def Parts (K : PySem.W.Frag) (H : Hp) (xs : List V) : Prop := ∀ v ∈ xs, Part K H v
theorem Part.same {K : PySem.W.Frag} {H H' : Hp} {v : V} (s : Same H H') (h : Part K H v) : Part K H' v := by
  obtain ⟨dd, h1, h2⟩ := h
  exact ⟨dd, h1.same s, h2⟩
theorem Parts.same {K : PySem.W.Frag} {H H' : Hp} {xs : List V} (s : Same H H') (h : Parts K H xs) : Parts K H' xs := fun v hv => (h v hv).same s
theorem Parts.app {K : PySem.W.Frag} {H : Hp} {xs ys : List V} (h1 : Parts K H xs) (h2 : Parts K H ys) : Parts K H (xs ++ ys) := fun v hv => (List.mem_append.mp hv).elim (h1 v) (h2 v)
theorem Parts.cons {K : PySem.W.Frag} {H : Hp} {v : V} {xs : List V} (h1 : Part K H v) (h2 : Parts K H xs) : Parts K H (v :: xs) := fun u hu => by
  rcases List.mem_cons.mp hu with e | hu
  · exact e ▸ h1
  · exact h2 u hu
theorem Parts.nil {K : PySem.W.Frag} {H : Hp} : Parts K H [] := fun _ h => nomatch h
theorem Parts.cut {K : PySem.W.Frag} {H : Hp} {xs : List V} {lo hi : Option Int} (h : Parts K H xs) : Parts K H (cutV xs lo hi) := fun v hv => h v (List.mem_of_mem_drop (List.mem_of_mem_take hv))
theorem Parts.ints {K : PySem.W.Frag} {H : Hp} {ns : List Int} (h : ∀ k ∈ ns, k.natAbs < 10 ^ 13) : Parts K H (ns.map V.int) := fun v hv => by
  obtain ⟨k, hk, rfl⟩ := List.mem_map.mp hv
  exact ⟨_, .int k, (FineD.int (h k hk)).q.mono (by decide) (by decide)⟩
theorem Parts.all {K : PySem.W.Frag} {H : Hp} : ∀ {xs : List V}, Parts K H xs → ∃ ds, DqAll K H xs ds ∧ ∀ dd ∈ ds, FineQ dd 2 300
  | [], _ => ⟨[], .nil, fun _ h => nomatch h⟩
  | x :: xs, h => by
    obtain ⟨ds, h1, h2⟩ := Parts.all (xs := xs) fun v hv => h v (List.mem_cons_of_mem _ hv)
    obtain ⟨dd, h3, h4⟩ := h x List.mem_cons_self
    refine ⟨dd :: ds, .cons h3 h1, fun e he => ?_⟩
    rcases List.mem_cons.mp he with z | z
    · exact z ▸ h4
    · exact h2 e z
theorem Parts.tup {K : PySem.W.Frag} {H : Hp} {a : Addr} {xs : List V} (h : Parts K H xs) (hs : SqT K H a xs) (hl : xs.length ≤ 30) : ∃ dd, Dq K H (.ref a) dd ∧ FineQ dd 3 10000 := by
  obtain ⟨ds, h1, h2⟩ := h.all
  refine ⟨_, .tup hs h1, (FineQ.tup h2).mono (by decide) ?_⟩
  have := dqAll_len h1
  have : ds.length * (300 + 2) ≤ 30 * (300 + 2) := Nat.mul_le_mul_right _ (by omega)
  omega
theorem Parts.lst {K : PySem.W.Frag} {H : Hp} {a : Addr} {xs : List V} (h : Parts K H xs) (hs : SqL K H a xs) (hl : xs.length ≤ 30) : ∃ dd, Dq K H (.ref a) dd ∧ FineQ dd 3 10000 := by
  obtain ⟨ds, h1, h2⟩ := h.all
  refine ⟨_, .lst hs h1, (FineQ.lst h2).mono (by decide) ?_⟩
  have := dqAll_len h1
  have : ds.length * (300 + 2) ≤ 30 * (300 + 2) := Nat.mul_le_mul_right _ (by omega)
  omega
/-! slices and sums of tuples beside the store -/
theorem sl_any {K : PySem.W.Frag} {H : Hp} {d c z a : Addr} {xs : List V} {lo hi : Option Int} {Q : VK} (S : SupE H d c z) (hS : SqT K (hideX H d c z) a xs)
    (k : ∀ (q : Addr) (H' : Hp), SupE H' d c z → SameX H H' d c → SqT K (hideX H' d c z) q (cutV xs lo hi) → Q (.ref q) H') : rSlA K (.ref a) lo hi H Q := by
  refine ⟨a, xs, rfl, sameT hide_same hS, fun hw => k a H S (SameX.refl H d c) ?_, fun _ p hp => ?_⟩
  · have : cutV xs lo hi = xs := by unfold cutV; rw [hw.1, hw.2, List.drop_zero, Nat.sub_zero, List.take_length]
    rw [this]; exact hS
  · obtain ⟨S1, x1, f1⟩ := new_step (o := .tup (cutV xs lo hi)) S hp
    exact k p _ S1 x1 (SqT.of f1)
theorem cat_any {K : PySem.W.Frag} {H : Hp} {d c z a b : Addr} {xs ys : List V} {Q : VK} (S : SupE H d c z) (h1 : SqT K (hideX H d c z) a xs) (h2 : SqT K (hideX H d c z) b ys) (hl : xs.length + ys.length ≤ 1000)
    (k : ∀ (q : Addr) (H' : Hp), SupE H' d c z → SameX H H' d c → SqT K (hideX H' d c z) q (xs ++ ys) → Q (.ref q) H') : rCatA K (.ref a) (.ref b) H Q := by
  refine ⟨a, b, xs, ys, rfl, rfl, sameT hide_same h1, sameT hide_same h2, Nat.le_trans hl (by decide), fun e => k b H S (SameX.refl H d c) ?_, fun _ e => k a H S (SameX.refl H d c) ?_, fun _ _ p hp => ?_⟩
  · subst e; exact h2
  · subst e; rw [List.append_nil]; exact h1
  · obtain ⟨S1, x1, f1⟩ := new_step (o := .tup (xs ++ ys)) S hp
    exact k p _ S1 x1 (SqT.of f1)
/-- what stands behind a statement, by a condition -/
theorem cut_seq {t u : TS} {D : Ends} {σ : L2.St} {H : Hp} (P : L2.St → Hp → Prop) (hu : ∀ σ H, P σ H → u D σ H) (ht : ∀ N : L2.St → Hp → Prop, (∀ σ H, P σ H → N σ H) → t { D with nx := N } σ H) : tSeq t u D σ H := ht _ hu
/-! the first error of a value -/
def errAt : Nat → List Int → List PyData → PyData
  | _, _, [] => .none
  | i, bs, d :: ds => match d with
    | .int z => if keyD (.int z) = true then (if z ∈ bs then .tuple [.int i, .str "duplicate"] else errAt (i + 1) (bs ++ [z]) ds) else .tuple [.int i, .str "key"]
    | _ => .tuple [.int i, .str "key"]
def errD : PyData → PyData
  | .tuple ds => if ds.length = 0 ∨ 24 < ds.length then .tuple [.none, .str "length"] else errAt 0 [] ds
  | _ => .tuple [.none, .str "tuple"]
theorem errD_tup {dd : PyData} (h : isTupD dd = false) : errD dd = .tuple [.none, .str "tuple"] := by
  cases dd <;> first | rfl | cases h
theorem errD_len {ds : List PyData} (h : ds.length = 0 ∨ 24 < ds.length) : errD (.tuple ds) = .tuple [.none, .str "length"] := if_pos h
theorem errD_at {ds : List PyData} (h : ¬ (ds.length = 0 ∨ 24 < ds.length)) : errD (.tuple ds) = errAt 0 [] ds := if_neg h
theorem errAt_key {i : Nat} {bs : List Int} {d : PyData} {ds : List PyData} (h : keyD d = false) : errAt i bs (d :: ds) = .tuple [.int i, .str "key"] := by
  cases d with
  | int z => show (if keyD (.int z) = true then _ else _) = _; rw [if_neg (by rw [h]; decide)]
  | _ => rfl
theorem errAt_dup {i : Nat} {bs : List Int} {z : Int} {ds : List PyData} (h : keyD (.int z) = true) (hm : z ∈ bs) : errAt i bs (.int z :: ds) = .tuple [.int i, .str "duplicate"] := by
  show (if keyD (.int z) = true then _ else _) = _
  rw [if_pos h, if_pos hm]
theorem errAt_next {i : Nat} {bs : List Int} {z : Int} {ds : List PyData} (h : keyD (.int z) = true) (hm : z ∉ bs) : errAt i bs (.int z :: ds) = errAt (i + 1) (bs ++ [z]) ds := by
  show (if keyD (.int z) = true then _ else _) = _
  rw [if_pos h, if_neg hm]
def ErrS (r : PyData) : Prop := r = .none ∨ ∃ a s, r = .tuple [a, .str s] ∧ FineQ a 0 14 ∧ FineQ (.str s) 0 14
theorem errAt_shape : ∀ (ds : List PyData) (i : Nat) (bs : List Int), i + ds.length ≤ 1000 → ErrS (errAt i bs ds)
  | [], _, _, _ => .inl rfl
  | d :: ds, i, bs, h => by
    rw [List.length_cons] at h
    have hi : FineQ (.int (i : Int)) 0 14 := (FineD.int (by omega)).q
    cases e : keyD d with
    | false => rw [errAt_key e]; exact .inr ⟨_, _, rfl, hi, ⟨rfl, by decide, by decide +kernel⟩⟩
    | true =>
      cases d with
      | int z =>
        by_cases hm : z ∈ bs
        · rw [errAt_dup e hm]; exact .inr ⟨_, _, rfl, hi, ⟨rfl, by decide, by decide +kernel⟩⟩
        · rw [errAt_next e hm]; exact errAt_shape ds (i + 1) _ (by omega)
      | _ => cases e
theorem errD_shape (dd : PyData) : ErrS (errD dd) := by
  cases e : isTupD dd with
  | false => rw [errD_tup e]; exact .inr ⟨_, _, rfl, FineD.none.q.mono (by decide) (by decide), ⟨rfl, by decide, by decide +kernel⟩⟩
  | true =>
    cases dd with
    | tuple ds =>
      by_cases h : ds.length = 0 ∨ 24 < ds.length
      · rw [errD_len h]; exact .inr ⟨_, _, rfl, FineD.none.q.mono (by decide) (by decide), ⟨rfl, by decide, by decide +kernel⟩⟩
      · rw [errD_at h]; exact errAt_shape ds 0 [] (by omega)
    | _ => cases e
theorem ErrS.fine {r : PyData} (h : ErrS r) : FineQ r 1 100 := by
  rcases h with rfl | ⟨a, s, rfl, h1, h2⟩
  · exact FineD.none.q.mono (by decide) (by decide)
  · refine (FineQ.tup (ds := [a, .str s]) (dep := 0) (B := 14) fun x hx => ?_).mono (by decide) (by show 2 * (14 + 2) + 3 ≤ 100; decide)
    rcases List.mem_cons.mp hx with e | hx
    · subst e; exact h1
    · rw [List.mem_singleton] at hx; subst hx; exact h2
def isNonD : PyData → Bool
  | .none => true
  | _ => false
theorem ErrS.isNon {K : PySem.W.Frag} {H : Hp} {v : V} {r : PyData} (h : ErrS r) (hd : Dq K H v r) : decide (v = .non) = isNonD r := by
  rcases h with rfl | ⟨a, s, rfl, _⟩
  · cases hd; exact decide_eq_true rfl
  · cases hd; exact decide_eq_false (fun z => nomatch z)
/-- the first error, or None -/
def spErr (K : PySem.W.Frag) : Sp := fun vs H Q _ => ∃ (v : V) (dd : PyData), vs = [v] ∧ Dq K H v dd ∧ ∀ (r : V) (H' : Hp), Same H H' → Dq K H' r (errD dd) → Q r H'
def spIsRow (K : PySem.W.Frag) : Sp := fun vs H Q _ => ∃ (v : V) (dd : PyData), vs = [v] ∧ Dq K H v dd ∧ ∀ (H' : Hp), Same H H' → Q (.bl (isNonD (errD dd))) H'
/-- a row bent, and all the values -/
def spBent (K : PySem.W.Frag) : Sp := fun vs H Q _ => ∃ (d c z a : Addr) (row : List Int), vs = [.ref d, .ref a] ∧ SupE H d c z ∧ hideX H d c z a = some (.tup (row.map V.int)) ∧ RowOk row ∧ row.length ≤ 24 ∧
  ∀ (v : V) (dd : PyData) (H' : Hp), Val K H' d c z v dd → FineQ dd 3 10000 → SupE H' d c z → SameX H H' d c → Q v H'
def spVals (K : PySem.W.Frag) : Sp := fun vs H Q _ => ∃ (d c : Addr), vs = [.ref d] ∧ Sup H d c ∧
  ∀ (p : Addr) (xs : List V) (H' : Hp), H' p = some (.lst xs) → xs.length ≤ 100 → AllFine K H' xs → Sup H' d c → SameX H H' d c → Q (.ref p) H'
end KX

namespace KX
open PySem PySem.Spec L2
open PyProof.Rows hiding St
/-! C(..) as a value, C's own __init__ walked as a def -/
section
variable {X : Cx} {o e : Expr} {es : List Expr} {to te : TE} {ta : TA} {f : Str} {p p' p1 p2 pos : Pos}
def tMkV (C : Addr) (sp : Sp) (ta : TA) : TE := fun σ H Q => ta σ H fun vs H1 => vs.length ≤ 1000 ∧ ∀ a, H1 a = none → sp (.ref a :: vs) (upd H1 a (exo a C none)) (fun v H2 => v = .non ∧ Q (.ref a) H2) (fun _ _ _ => False)
theorem run_oex {pins : List (Addr × Obj)} {σ : L2.St} {H1 : Hp} {s1 : Shared} {Q : VK} {us : List Value} {vs : List V} {C fI : Addr} {k : Nat} {fd : FuncData} {ps : List Str} {sp : Sp} (T : OexC X.K C) (iC : PySem.W.findIn X.K (.ref C) "__init__" = some (some (.ref fI))) (tI : PySem.W.typeIn X.K (.ref fI) = some (.type "function"))
    (F1 : FnOk X.prog X.w X.K X.mg X.base CX0 k fI fd ps sp) (hr : Room (k + 1) X.A) (hb : Binds X.K fd ps []) (I1 : Inv X pins σ H1 s1) (r1 : Vals vs us) (hz : vs.length ≤ 1000)
    (q1 : ∀ a, H1 a = none → sp (.ref a :: vs) (upd H1 a (exo a C none)) (fun v H2 => v = .non ∧ Q (.ref a) H2) (fun _ _ _ => False)) : wpAny (model X.prog X.w) X.A (call (.ref C) us) (EP X pins σ Q) X.xe s1 := by
  obtain ⟨nm, q, N, bs, bm, sn, sub, ab, col, dd, k0, k1, k2, k3, k5, hC, hbm⟩ := T.cls
  obtain ⟨hp, g, dr, tk, os⟩ := s1
  have hsz : hp.objs.size ≤ hp.objs.size + 1 := Nat.le_succ _
  have hn : H1 (hp.objs.size + 1) = none := I1.hok.fresh hsz
  have hq := q1 (hp.objs.size + 1) hn
  have kk : ∀ b o, hp.get? b = some o → ((hp.push (PySem.W.kdv_tup us)).push (PySem.HandSPX.excO C hp.objs.size)).get? b = some o := fun b o e => Heap.get?_push_of_some _ (Heap.get?_push_of_some _ e)
  have hget : ((hp.push (PySem.W.kdv_tup us)).push (PySem.HandSPX.excO C hp.objs.size)).get? (hp.objs.size + 1) = some (PySem.HandSPX.excO C hp.objs.size) := by heap_get
  have I2 : Inv X pins σ (upd H1 (hp.objs.size + 1) (exo (hp.objs.size + 1) C none)) ⟨(hp.push (PySem.W.kdv_tup us)).push (PySem.HandSPX.excO C hp.objs.size), g, dr, tk, os⟩ :=
    I1.laid (t' := tk) (a := hp.objs.size + 1) (o := exo (hp.objs.size + 1) C none) (h' := (hp.push (PySem.W.kdv_tup us)).push (PySem.HandSPX.excO C hp.objs.size)) kk hsz (exo_ok hget)
  have r2 : Vals (V.ref (hp.objs.size + 1) :: vs) (Value.ref (hp.objs.size + 1) :: us) := .cons rfl r1
  have hl : (Value.ref (hp.objs.size + 1) :: us).length = ps.length := by
    have e := r2.length
    rw [F1.len _ _ _ _ hq] at e
    exact e.symm
  have hl' : ((Value.ref (hp.objs.size + 1) :: us) ++ []).length = ps.length := by rw [List.append_nil]; exact hl
  have hus : us.length ≤ sizeLine := by
    rw [← Paired.length r1, sizeLine_eq]
    omega
  have hbt := hb ⟨(hp.push (PySem.W.kdv_tup us)).push (PySem.HandSPX.excO C hp.objs.size), g, dr, tk, os⟩ (Value.ref (hp.objs.size + 1) :: us) I2.kIn hl'
  rw [List.append_nil] at hbt
  refine wpAny_call (PySem.HandSPX.call_own F.excBase_ValueError (fun Y => PySem.HandSPX.refsVE_contains Y bm hbm) (I1.kIn _ _ hC) (PySem.W.looks_findIn I1.kIn iC) (fun self => PySem.W.bind_fn I1.kIn self tI) hus
    (codeAny_mono (F1.run _ X.stack _ _ ⟨Value.ref (hp.objs.size + 1) :: us, []⟩ (Value.ref (hp.objs.size + 1) :: us) _ _ (fun _ _ _ => False) (hr.make C us []) (I2.env0.make C us []) hbt r2 hq) fun r s' hq' => ?_))
  cases r with
  | error er => exact absurd hq' id
  | ok fl =>
    cases fl with
    | ret u =>
      obtain ⟨v, H2, os2, bare2, un2, hok2, rv, ev, q2⟩ := hq'
      subst ev
      obtain ⟨h2, g2, d2, t2, os'⟩ := s'
      obtain rfl : os' = os := os2
      exact ⟨rv, .ref (hp.objs.size + 1), H2, I2.call (h' := h2) (g' := g2) (d' := d2) (t' := t2) (ch := []) un2 hok2 bare2 (fun b z => absurd z (by simp)), rfl, q2⟩
    | next => exact False.elim hq'
    | brk => exact False.elim hq'
    | cont => exact False.elim hq'
theorem pe_oex {x : Str} {C fI : Addr} {k : Nat} {fd : FuncData} {ps : List Str} {sp : Sp} (T : OexC X.K C) (iC : PySem.W.findIn X.K (.ref C) "__init__" = some (some (.ref fI))) (tI : PySem.W.typeIn X.K (.ref fI) = some (.type "function"))
    (F1 : FnOk X.prog X.w X.K X.mg X.base CX0 k fI fd ps sp) (hr : Room (k + 1) X.A) (hb : Binds X.K fd ps []) (hg : Gl X x) (hm : X.mg x = some (.ref C)) (ha : PA X (e :: es) ta)
    (hdb : (x == ("__debug__" : Str)) = false := by decide) (he : starEach (e :: es) X.env = (false, eval e X.env) :: starEach es X.env := by rfl) (hpl : (backTo pos (starEach es X.env)).any (·.1) = false := by rfl) :
    PE X (.Call (.Name x p) (e :: es) [] pos) (tMkV C sp ta) := by
  refine ⟨fun pins s σ H Q I h => ?_⟩
  refine wpAny_Call_Name_kw (ld_glob I hg hm ?_ hdb)
  refine PySem.W.callWith_K (h₀ := X.base) I.ok.mod.kin T.kC (thn (ha.run pos pins s σ H _ I h) fun us s1 ⟨vs, H1, I1, r1, hz, q1⟩ => ⟨I1.kIn, ?_⟩) he hpl
  exact run_oex T iC tI F1 hr hb I1 r1 hz q1
theorem pe_oex0 {x : Str} {C fI : Addr} {k : Nat} {fd : FuncData} {ps : List Str} {sp : Sp} (T : OexC X.K C) (iC : PySem.W.findIn X.K (.ref C) "__init__" = some (some (.ref fI))) (tI : PySem.W.typeIn X.K (.ref fI) = some (.type "function"))
    (F1 : FnOk X.prog X.w X.K X.mg X.base CX0 k fI fd ps sp) (hr : Room (k + 1) X.A) (hb : Binds X.K fd ps []) (hg : Gl X x) (hm : X.mg x = some (.ref C))
    (hdb : (x == ("__debug__" : Str)) = false := by decide) : PE X (.Call (.Name x p) [] [] pos) (tMkV C sp tNil) := by
  refine ⟨fun pins s σ H Q I h => ?_⟩
  refine wpAny_Call_Name_kw (ld_glob I hg hm ?_ hdb)
  exact PySem.W.callWith_K0 I.kIn T.kC (run_oex (us := []) T iC tI F1 hr hb I .nil h.1 h.2)
end
/-! an error that is held: its class, its field -/
def Held (H : Hp) (a C : Addr) : Prop := ∃ d, H a = some (exo a C d) ∧ (d = none ∨ ∃ dd fs, d = some dd ∧ H dd = some (exd dd fs))
def HeldF (H : Hp) (a C : Addr) (f : Str) (v : V) : Prop := ∃ dd, H a = some (exo a C (some dd)) ∧ H dd = some (exd dd [(f, v)])
theorem HeldF.held {H : Hp} {a C : Addr} {f : Str} {v : V} (h : HeldF H a C f v) : Held H a C := by
  obtain ⟨dd, h1, h2⟩ := h
  exact ⟨_, h1, .inr ⟨dd, _, rfl, h2⟩⟩
theorem HeldF.same {H H' : Hp} {a C : Addr} {f : Str} {v : V} (s : Same H H') (h : HeldF H a C f v) : HeldF H' a C f v := by
  obtain ⟨dd, h1, h2⟩ := h
  exact ⟨dd, s _ _ h1, s _ _ h2⟩
theorem Held.same {H H' : Hp} {a C : Addr} (s : Same H H') (h : Held H a C) : Held H' a C := by
  obtain ⟨d, h1, h2⟩ := h
  refine ⟨d, s _ _ h1, h2.imp id ?_⟩
  rintro ⟨dd, fs, e, q⟩
  exact ⟨dd, fs, e, s _ _ q⟩
def spInit0 (C : Addr) : Sp := fun vs H Q _ => ∃ (a : Addr), vs = [.ref a] ∧ Q .non H
def spInit1 (C : Addr) (f : Str) : Sp := fun vs H Q _ => ∃ (a : Addr) (v : V), vs = [.ref a, v] ∧ H a = some (exo a C none) ∧ ∀ dx, H dx = none → dx ≠ a → Q .non (upd (upd H dx (exd dx [(f, v)])) a (exo a C (some dx)))
theorem mk0 {C : Addr} {H : Hp} {Q : VK} (k : ∀ a H', Same H H' → Held H' a C → Q (.ref a) H') : ([] : List V).length ≤ 1000 ∧ ∀ a, H a = none → spInit0 C (.ref a :: []) (upd H a (exo a C none)) (fun v H2 => v = .non ∧ Q (.ref a) H2) (fun _ _ _ => False) :=
  ⟨by decide, fun a ha => ⟨a, rfl, rfl, k a _ (same_new ha) ⟨none, upd_same, .inl rfl⟩⟩⟩
theorem mk1 {C : Addr} {f : Str} {v : V} {H : Hp} {Q : VK} (k : ∀ a H', Same H H' → HeldF H' a C f v → Q (.ref a) H') : ([v] : List V).length ≤ 1000 ∧ ∀ a, H a = none → spInit1 C f (.ref a :: [v]) (upd H a (exo a C none)) (fun u H2 => u = .non ∧ Q (.ref a) H2) (fun _ _ _ => False) := by
  refine ⟨by show 1 ≤ 1000; decide, fun a ha => ⟨a, v, rfl, upd_same, fun dx h1 h2 => ⟨rfl, k a _ (fun b o e => ?_) ⟨dx, upd_same, ?_⟩⟩⟩⟩
  · have hb : b ≠ a := ne_of_none e ha
    rw [upd_ne h2] at h1
    have hd : b ≠ dx := ne_of_none e h1
    rw [upd_ne hb, upd_ne hd, upd_ne hb]; exact e
  · rw [upd_ne h2]; exact upd_same
/-- e.f, e an error that is held -/
def tGetF (K : PySem.W.Frag) (f : Str) (te : TE) : TE := fun σ H Q => te σ H fun x H1 => ∃ (a C : Addr) (v : V), x = .ref a ∧ HeldF H1 a C f v ∧ XfC K C ∧ PySem.W.findIn K (.ref C) f = some none ∧ Q v H1
theorem pe_getF {X : Cx} {e : Expr} {te : TE} {pos : Pos} {n : Str} (he : PE X e te) (hb : attributeBase e n X.env (eval e X.env) = eval e X.env := by rfl) : PE X (.Attribute e n pos) (tGetF X.K n te) := by
  refine ⟨fun pins s σ H Q I h => ?_⟩
  refine attr_of hb (thn (he.run pins s σ H _ I h) fun u s1 hh => ?_)
  obtain ⟨x, H1, I1, rx, a, C, v, ex, ⟨dd, ha, hd⟩, T, hno, q⟩ := hh
  subst ex
  obtain rfl : u = Value.ref a := rx
  obtain ⟨t1, hoe⟩ := exo_at I1.hok ha
  obtain ⟨mA, hns, hr⟩ := exd_at I1.hok hd
  obtain ⟨od, ho, hl⟩ := lookIn_ns hns
  have l : ([(n, v)] : List (Str × V)).lookup n = some v := by simp [List.lookup]
  obtain ⟨u, hu, ru⟩ := RelO.some_of (v := v) (o := mA n) (by rw [← l]; exact hr n)
  have J : PySem.W.InstAt s1.heap a _ C (some od) := ⟨hoe, rfl, rfl, ho⟩
  exact HandSPX.exc_get I1.kIn J T.ga T.gg T.exC (PySem.W.findObj_own T.hdC hno rfl (by rw [hl, hu])) (handed_of ru) ⟨v, H1, I1.tok _, ru, q⟩
/-! isinstance of it -/
structure ErrC (K : PySem.W.Frag) (C : Addr) : Prop where
  cl : (PySem.W.clsIn K C).isSome = true
  ga : PySem.W.findIn K (.ref C) "__getattribute__" = some (some (.builtin "BaseException.__getattribute__"))
  gg : PySem.W.findIn K (.ref C) "__getattr__" = some none
  sb : PySem.W.subIn K (.ref C) (.type "BaseException") = some true
  ca : PySem.W.findIn K (.ref C) "__class__" = some (some (.builtin "object.__class__"))
  cn : PySem.W.specialIn K (.builtin "object.__class__") "__get__" = some (some (.builtin "getset_descriptor.__get__"))
  ct : PySem.W.takesIn K (.builtin "object.__class__") = some true
  mo : PySem.W.mroIn K C (.type "object") = some true
def rIsX (K : PySem.W.Frag) : List V → Hp → VK → Prop := fun xs H Q => ∃ (a C : Addr) (c : V) (cv : Value) (b : Bool), xs = [.ref a, c] ∧ Held H a C ∧ ErrC K C ∧ ClsV c cv ∧ PySem.W.kitOne K (.ref C) cv = some b ∧ Q (.bl b) H
theorem call_isX {X : Cx} : CallR X (.builtin "isinstance") (rIsX X.K) := by
  intro pins s σ H xs us Q I r ⟨a, C, c, cv, b, ex, ⟨d, ha, hd⟩, T, kc, e, q⟩
  subst ex
  obtain ⟨u1, u2, rfl, r1, r2⟩ := vals2 r
  obtain rfl : u1 = Value.ref a := r1
  obtain rfl := kc.eq r2
  obtain ⟨t1, hoe⟩ := exo_at I.hok ha
  have J : ∃ ox od, PySem.W.InstAt s.heap a ox C od := by
    rcases hd with rfl | ⟨dd, fs, rfl, hdd⟩
    · exact ⟨_, none, hoe, rfl, rfl, trivial⟩
    · obtain ⟨mA, hns, hr⟩ := exd_at I.hok hdd
      obtain ⟨od, ho, hl⟩ := lookIn_ns hns
      exact ⟨_, some od, hoe, rfl, rfl, ho⟩
  obtain ⟨ox, od, J⟩ := J
  exact PySem.W.kia_one (PySem.W.kitx_exc T.cl T.ga T.gg T.sb T.ca T.cn T.ct T.mo) I.kIn J e (fun z => nomatch z) fun tk => ⟨.bl b, H, I.kept (t' := tk) fun _ _ z => z, rfl, q⟩
/-! which class is which -/
theorem cls_some {K : PySem.W.Frag} {C : Addr} (h : PySem.W.hasDictIn K C = true) : (PySem.W.clsIn K C).isSome = true := by
  obtain ⟨cd, hc, _⟩ := PySem.W.any_some h
  rw [hc]; rfl
theorem kit_own {K : PySem.W.Frag} {C D : Addr} {b : Bool} (h1 : PySem.W.hasDictIn K D = true) (h2 : PySem.W.typeIn K (.ref D) = some (.type "type")) (h3 : PySem.W.subIn K (.ref C) (.ref D) = some b) (h4 : (Value.ref C == Value.ref D) = false) : PySem.W.kitOne K (.ref C) (.ref D) = some b := by
  unfold PySem.W.kitOne
  rw [if_neg (by rw [h4]; exact Bool.false_ne_true)]
  unfold PySem.W.kitCls
  simp only [cls_some h1, h2, h3]
  simp
theorem kit_self {K : PySem.W.Frag} {C : Addr} : PySem.W.kitOne K (.ref C) (.ref C) = some true := by
  unfold PySem.W.kitOne
  rw [if_pos (by simp)]
theorem kit_base {K : PySem.W.Frag} {C : Addr} {T : String} {b : Bool} (h1 : PySem.W.kitMeta T = true) (h2 : PySem.W.subIn K (.ref C) (.type T) = some b) : PySem.W.kitOne K (.ref C) (.type T) = some b := by
  unfold PySem.W.kitOne
  rw [if_neg (by show ¬ ((Value.ref C == Value.type T) = true); exact Bool.false_ne_true)]
  unfold PySem.W.kitCls
  simp only [h1, h2]
  simp
theorem meta_VE : PySem.W.kitMeta "ValueError" = true := by decide +kernel
/-! enumerate(l), l a list -/
section
variable {K : PySem.W.Frag} {a : Addr} {xs : List V}
theorem for_enumL {g : TG} {tb : TS} {D : Ends} {σ : L2.St} {H : Hp} (Pv : Nat → L2.St → Hp → Prop) (h0 : Pv 0 σ H) (hl : ∀ i σ H, i ≤ xs.length → Pv i σ H → SqL K H a xs)
    (hs : ∀ i x σ H T, xs[i]? = some x → Pv i σ H → H T = none → g (.ref T) σ (upd H T (.tup [.int (i : Nat), x])) fun σ2 H2 => tb { D with nx := Pv (i + 1), ct := Pv (i + 1), bk := D.nx } σ2 H2) (hd : ∀ σ H, Pv xs.length σ H → D.nx σ H) :
    ∃ W : Nat → Nat → L2.St → Hp → Prop, (∃ m, W 0 m σ H) ∧ ∀ i m σ H, W i m σ H →
      ((Ite K a).stop i H ∧ D.nx σ H) ∨ ((Ite K a).go i H ∧ ∃ N : L2.St → Hp → Prop, (∀ σ' H', N σ' H' → ∃ m', m' < m ∧ W (i + 1) m' σ' H') ∧ ∀ x H', (Ite K a).yld i H x H' → g x σ H' fun σ2 H2 => tb { D with nx := N, ct := N, bk := D.nx } σ2 H2) := by
  refine ⟨fun i m σ H => m = xs.length - i ∧ i ≤ xs.length ∧ Pv i σ H, ⟨_, rfl, Nat.zero_le _, h0⟩, ?_⟩
  rintro i m σ H ⟨rfl, hi, p⟩
  have q := hl i σ H hi p
  rcases Nat.lt_or_ge i xs.length with lt | ge
  · refine .inr ⟨⟨xs, _, q, List.getElem?_eq_getElem lt⟩, Pv (i + 1), fun σ' H' p' => ⟨xs.length - (i + 1), by omega, rfl, lt, p'⟩, ?_⟩
    rintro x H' ⟨T, y, rfl, hT, rfl, hy⟩
    exact hs i y σ H T (hy xs q) p hT
  · obtain rfl : i = xs.length := by omega
    exact .inl ⟨⟨xs, q, Nat.le_refl _⟩, hd σ H p⟩
end
end KX

namespace LW
open PySem L2 KX
def top (i : Nat) : Stmt := PySem.Challenge.pw_oddrounds_k01_limits_and_errors.main.body.getD i (.Pass ⟨0, 0, 0, 0⟩)
abbrev sSupply : Stmt := top 33
abbrev sTake : Stmt := top 34
section
variable {P : Program} {w : World} {K : PySem.W.Frag} {mg : Str → Option Value} {base : Heap}
theorem scTake : FnScope ["_law_supply_here", "_law_many", "_law_cells", "_law_turn", "_law_at", "_law_cell"] ["_law_supply_here", "_law_many"] (defScope sTake) := ⟨rfl, rfl, rfl, by decide +kernel, rfl, by decide +kernel, by decide +kernel⟩
theorem ok_take {f : Addr} {fd : FuncData} (F : Fun K "_law_take" "_law_take" sTake f fd) (mlen : mg "len" = none) : FnOk P w K mg base CX0 1 f fd ["_law_supply_here", "_law_many"] spTake := by
  refine F.ok scTake (fun vs H Q E h => ?_) (fun cdv A outer s H vs Q E hr h => ?_)
  · obtain ⟨d, c, m, rfl, _⟩ := h
    rfl
  · obtain ⟨d, c, m, rfl, S, hm0, hm, k⟩ := h
    have hu := hu_of hr
    obtain ⟨cells, t, b, hd, hc, hl, hb0, hb⟩ := S.ex
    have ndc : d ≠ c := S.ne
    refine ⟨_, pss_cons (ps_par (i := 2) (j := 3) rfl scTake.nd rfl rfl (by decide) rfl rfl (pa_cons (pe_dget hu (pv 0) pe_str (fun _ _ => rfl)) (pa_cons (pe_dget hu (pv 0) pe_str (fun _ _ => rfl)) pa_nil)) (by rfl))
      (pss_cons (ps_dput hu (pv 0) pe_str (pe_op op_add (pv 3) pe_int) rfl)
      (pss_cons (ps_if (pt_cmpR (op_neD hr.units) (pv 2) (pe_lst pa_nil) (nomark _))
        (pss_cons (ps_set (i := 4) scTake.nd rfl (.inl rfl) (pe_op op_mod (pv 3) (pe_callB call_len_seq (by rfl) mlen PySem.boot_len (pa_cons (pv 2) pa_nil))))
        (pss_cons (ps_set (i := 5) scTake.nd rfl (.inl rfl) (pe_ix ix_list (pv 2) (pv 4) (fun _ _ => rfl)))
        (pss_cons (ps_if (pt_cmpR op_ge (pv 5) (pe_op op_pow pe_int pe_int) (nomark _))
          (pss_cons (ps_asg (pe_op op_fdivW (pv 5) (pv 1)) (pg_sub (pv 2) (pv 4) set_list))
          (pss_one (ps_ret (pe_op op_mod (pv 5) (pv 1))))) pss_nil)
        (pss_one (ps_dput hu (pv 0) pe_str (pe_op op_mod (pe_op op_add (pe_op op_add (pe_op op_mul (pe_dget hu (pv 0) pe_str (fun _ _ => rfl)) pe_int) (pv 5)) (pv 3)) pe_int) rfl))))) pss_nil)
      (pss_cons (ps_dput hu (pv 0) pe_str (pe_op op_mod (pe_op op_add (pe_op op_add (pe_op op_mul (pe_dget hu (pv 0) pe_str (fun _ _ => rfl)) pe_int) (pe_op op_mul pe_int (pv 3))) pe_int) pe_int) rfl)
      (pss_one (ps_ret (pe_op op_mod (pe_op op_fdiv (pe_op op_mod (pe_op op_mul (pe_dget hu (pv 0) pe_str (fun _ _ => rfl)) (pe_dget hu (pv 0) pe_str (fun _ _ => rfl))) pe_int) pe_int) (pv 1))))))), ?_⟩
    -- the two reads, the turn
    refine ⟨_, rfl, d, _, rfl, sup_get hd (sup_cells c t b), _, rfl, d, _, rfl, sup_get hd (sup_turn c t b), _, _, rfl, ?_⟩
    refine ⟨_, rfl, _, _, rfl, rfl, _, rfl, d, _, rfl, sup_setT hd, ?_⟩
    have hd1 : upd H d (.dK (supD c (t + 1) b)) d = some (.dK (supD c (t + 1) b)) := upd_same
    have hc1 : upd H d (.dK (supD c (t + 1) b)) c = some (.lst (cells.map V.int)) := by rw [upd_ne ndc.symm]; exact hc
    have sx1 : SameX H (upd H d (.dK (supD c (t + 1) b))) d c := fun x o h1 _ e => by rw [upd_ne h1]; exact e
    generalize upd H d (.dK (supD c (t + 1) b)) = H1 at hd1 hc1 sx1 ⊢
    refine ⟨_, rfl, Nat.zero_le _, fun e he => nonempty_data (ns := cells) (SqL.of (by rw [upd_ne (ne_of_none hc1 he)]; exact hc1)) (SqL.of upd_same) ⟨_, rfl, ?_⟩⟩
    have hd2 : upd H1 e (.lst []) d = some (.dK (supD c (t + 1) b)) := by rw [upd_ne (ne_of_none hd1 he)]; exact hd1
    have hc2 : upd H1 e (.lst []) c = some (.lst (cells.map V.int)) := by rw [upd_ne (ne_of_none hc1 he)]; exact hc1
    have sx2 : SameX H (upd H1 e (.lst [])) d c := sx1.trans (.of d c (same_new he))
    generalize upd H1 e (.lst []) = H2 at hd2 hc2 sx2 ⊢
    by_cases hn : cells = []
    · rw [decide_eq_true hn]
      refine iteF ?_
      exact last_run hm0 hd2 hc2 hl sx2 hb0 hb k
    · rw [decide_eq_false hn]
      refine iteT ?_
      have hp : 0 < cells.length := List.length_pos_iff.mpr hn
      have hpi : (0 : Int) < ((cells.map V.int).length : Int) := by rw [List.length_map]; omega
      refine ⟨_, rfl, _, rfl, c, _, rfl, .inl (SqL.of hc2), _, _, rfl, rfl, hpi, ?_⟩
      obtain ⟨j, hj, hjl⟩ : ∃ j : Nat, t % ((cells.map V.int).length : Int) = (j : Int) ∧ j < cells.length := by
        have h := emod_in (a := t) hpi
        rw [List.length_map] at h ⊢
        exact ⟨(t % (cells.length : Int)).toNat, by omega, by omega⟩
      show gName 4 (V.int (t % ((cells.map V.int).length : Int))) _ _ _
      rw [hj]
      have hat : (cells.map V.int)[j]? = some (V.int cells[j]) := by rw [List.getElem?_map, List.getElem?_eq_getElem hjl]; rfl
      refine ⟨_, rfl, _, rfl, c, _, _, _, rfl, rfl, SqL.of hc2, atI_nat hat, ?_⟩
      generalize cells[j] = z
      refine ⟨_, rfl, _, _, rfl, rfl, ⟨by decide, by decide, by decide⟩, _, _, rfl, rfl, _, rfl, ?_⟩
      refine ite2 (fun _ => ?_) (fun _ => ?_)
      · -- a great cell: the quotient stays, the rest is drawn
        refine ⟨_, rfl, _, rfl, _, _, rfl, rfl, wide_div hm0 (nats62 hm0 hm) (by decide) (by decide), _, rfl, _, rfl, c, _, _, j, rfl, rfl, hc2, ix_at (by rw [List.length_map]; exact hjl), ?_⟩
        have es : (cells.map V.int).set j (V.int (z / m)) = (cells.set j (z / m)).map V.int := by rw [List.map_set]
        refine ⟨_, rfl, _, rfl, _, _, rfl, rfl, hm0, ?_⟩
        refine k _ _ (emod_in hm0).1 (emod_in hm0).2 ⟨cells.set j (z / m), t + 1, b, ?_, ?_, by rw [List.length_set]; exact hl, hb0, hb⟩ ?_
        · rw [upd_ne ndc]; exact hd2
        · exact upd_same.trans (congrArg (fun l => some (HO.lst l)) es)
        · intro x o h1 h2 e
          rw [upd_ne h2]; exact sx2 x o h1 h2 e
      · refine ⟨_, rfl, d, _, rfl, sup_get hd2 (sup_blend c (t + 1) b), _, _, rfl, rfl, .inl ⟨by omega, by omega⟩, _, rfl, _, _, rfl, rfl, _, rfl, _, _, rfl, rfl, _, _, rfl, rfl, (by show (0 : Int) < 2147483647; decide), _, rfl, d, _, rfl, sup_setB hd2, ?_⟩
        have hb1 := emod_in (a := b * 16807 + z + t) (m := 2147483647) (by decide)
        refine last_run (b2 := (b * 16807 + z + t) % 2147483647) hm0 upd_same (by rw [upd_ne ndc.symm]; exact hc2) hl (fun x o h1 h2 e => by rw [upd_ne h1]; exact sx2 x o h1 h2 e) hb1.1 hb1.2 k
theorem scSupply : FnScope ["_law_script", "_law_cell"] ["_law_script"] (defScope sSupply) := ⟨rfl, rfl, rfl, by decide +kernel, rfl, by decide +kernel, by decide +kernel⟩
theorem ok_supply {f : Addr} {fd : FuncData} (F : Fun K "_law_supply" "_law_supply" sSupply f fd) (mlen : mg "len" = none) (mabs : mg "abs" = none) : FnOk P w K mg base CX0 1 f fd ["_law_script"] (spSupply K) := by
  refine F.ok scSupply (fun vs H Q E h => ?_) (fun cdv A outer s H vs Q E hr h => ?_)
  · obtain ⟨a, ns, rfl, _⟩ := h
    rfl
  · obtain ⟨a, ns, rfl, hS, hl, k⟩ := h
    refine ⟨_, pss_one (ps_ret (pe_disp (pps_cons pe_str (pe_lc (own := [("_law_cell", 1)]) (g := gName 1) (tt := tYes) rfl scSupply.nd (pi_list (pe_slice sl_list (pv 0) po_none (po_some pe_int)))
        (blkOk_by (own := [("_law_cell", 1)]) (N := ["_law_script", "_law_cell"]) (sc := defScope sSupply) (by decide +kernel)) (fun _ _ _ _ _ => pg_name (i := 1) scSupply.nd rfl (.inl rfl)) (fun _ _ _ _ _ => pts_nil)
        (fun _ _ _ _ _ => pe_callB call_abs (by rfl) mabs (by decide +kernel) (pa_cons (pv 1) pa_nil)))
      (pps_cons pe_str pe_int (pps_cons pe_str (pe_op op_add pe_int (pe_op op_mul pe_int (pe_callB call_len_seq (by rfl) mlen PySem.boot_len (pa_cons (pv 0) pa_nil)))) pps_nil))) (by rfl) (by rfl) (fun z => by cases z) (by decide))), ?_⟩
    intro d hd
    refine ⟨_, rfl, 63, rfl, a, _, rfl, (same_new hd).seq hS, fun q hq => ?_⟩
    obtain ⟨ms, em, hml⟩ := cut_ints ns none (some 63)
    rw [em]
    have fr1 : ∀ {b : Addr}, upd (upd H d (.dK [])) q (.lst (ms.map V.int)) b = none → b ≠ d ∧ b ≠ q ∧ H b = none := by
      intro b hb
      have h1 : b ≠ q := fun z => by rw [z, upd_same] at hb; cases hb
      rw [upd_ne h1] at hb
      have h2 : b ≠ d := fun z => by rw [z, upd_same] at hb; cases hb
      rw [upd_ne h2] at hb
      exact ⟨h2, h1, hb⟩
    have hq0 : H q = none := (same_new hd).free hq
    have nqd : q ≠ d := fun z => by rw [z, upd_same] at hq; cases hq
    have dd : upd (upd H d (.dK [])) q (.lst (ms.map V.int)) d = some (.dK []) := by rw [upd_ne nqd.symm]; exact upd_same
    have sm : Same H (upd (upd H d (.dK [])) q (.lst (ms.map V.int))) := (same_new hd).trans (same_new hq)
    refine ⟨q, rfl, ⟨_, SqL.of upd_same⟩, fun c hc => ?_⟩
    obtain ⟨ncd, ncq, hc0⟩ := fr1 hc
    have hqq : upd (upd H d (.dK [])) q (.lst (ms.map V.int)) q = some (.lst (ms.map V.int)) := upd_same
    generalize upd (upd H d (.dK [])) q (.lst (ms.map V.int)) = H1 at dd sm hc hqq ⊢
    refine lc_list (K := K) (a := q) (xs := ms.map V.int) (fun i Hx => ∃ cs : List Int, cs.length = i ∧ At H1 Hx c (cs.map V.int)) ⟨[], rfl, At.nil hc⟩ (fun i Hx _ ⟨_, _, aa⟩ => SqL.of (aa.1 _ _ hqq)) ?_ ?_
    · rintro i y Hx hi ⟨cs, hcs, aa⟩
      obtain ⟨z, _, rfl, hil⟩ := getI hi
      refine ⟨rfl, _, rfl, z, rfl, cs.map V.int, aa.2, by rw [List.length_map]; exact small1000 (by omega), cs ++ [if z < 0 then -z else z], by simp [hcs], ?_⟩
      have e := aa.push hc ((cs ++ [if z < 0 then -z else z]).map V.int)
      rw [List.map_append] at e ⊢
      exact e
    · rintro Hx ⟨cs, hcs, aa⟩
      rw [List.length_map] at hcs
      refine ⟨_, rfl, a, _, rfl, .inl ((sm.trans aa.1).seq hS), _, _, rfl, rfl, .inl ⟨by decide, by decide⟩, _, _, rfl, rfl, aa.1 _ _ dd, supD c 0 (97 + 31 * ((ns.map V.int).length : Int)), rfl, by show 3 ≤ 15; decide, ?_⟩
      rw [sup_make]
      have hl2 : ((ns.map V.int).length : Int) ≤ 63 := by rw [List.length_map]; omega
      refine k d c _ hd hc0 (fun b o e => by rw [upd_ne (ne_of_none e hd)]; exact aa.1 _ _ (sm _ _ e)) ⟨cs, 0, _, upd_same, by rw [upd_ne ncd]; exact aa.2, by omega, by omega, by omega⟩
end
end LW

namespace LW
open PySem L2 KX
abbrev sOne : Stmt := top 35
abbrev sOdd : Stmt := top 36
section
variable {P : Program} {w : World} {K : PySem.W.Frag} {mg : Str → Option Value} {base : Heap}
theorem scOne : FnScope ["_law_supply_here", "_law_items"] ["_law_supply_here", "_law_items"] (defScope sOne) := ⟨rfl, rfl, rfl, by decide +kernel, rfl, by decide +kernel, by decide +kernel⟩
theorem ok_one {f fT : Addr} {fd fdT : FuncData} (F : Fun K "_law_one" "_law_one" sOne f fd) (GT : FnOk P w K mg base CX0 1 fT fdT ["_law_supply_here", "_law_many"] spTake) (mT : mg "_law_take" = some (.ref fT)) (kT : PySem.W.keepIn K (.ref fT) = true) (bT : Binds K fdT ["_law_supply_here", "_law_many"] [])
    (mlen : mg "len" = none) : FnOk P w K mg base CX0 2 f fd ["_law_supply_here", "_law_items"] (spOne K) := by
  refine F.ok scOne (fun vs H Q E h => ?_) (fun cdv A outer s H vs Q E hr h => ?_)
  · obtain ⟨d, c, z, a, xs, rfl, _⟩ := h
    rfl
  · obtain ⟨d, c, z, a, xs, rfl, S, hS, hne, hl, k⟩ := h
    refine ⟨_, pss_one (ps_ret (pe_ix ix_list (pv 1) (pe_call GT hr (by rfl) mT kT bT .nil pass0 (pa_cons (pv 0) (pa_cons (pe_callB call_len_seq (by rfl) mlen PySem.boot_len (pa_cons (pv 1) pa_nil)) pa_nil))) (fun _ _ => rfl))), ?_⟩
    have hpos : 0 < xs.length := List.length_pos_iff.mpr hne
    refine ⟨_, rfl, _, rfl, _, rfl, a, _, rfl, .inl (hide_same.seq hS), d, c, _, rfl, S, by omega, by omega, fun r H1 r0 r1 S1 x1 => ?_⟩
    obtain ⟨j, rfl, hj⟩ : ∃ j : Nat, r = (j : Int) ∧ j < xs.length := ⟨r.toNat, by omega, by omega⟩
    refine ⟨a, _, _, _, rfl, rfl, hide_same.seq ((hide_mono x1).seq hS), atI_nat (List.getElem?_eq_getElem hj), k _ _ (List.getElem_mem hj) S1 x1⟩
end
end LW

namespace LW
open PySem L2 KX
section
variable {P : Program} {w : World} {K : PySem.W.Frag} {mg : Str → Option Value} {base : Heap}
theorem scOdd : FnScope ["_law_supply_here", "_law_items"] ["_law_supply_here"] (defScope sOdd) := ⟨rfl, rfl, rfl, by decide +kernel, rfl, by decide +kernel, by decide +kernel⟩
theorem ok_odd {f fO : Addr} {fd fdO : FuncData} (F : Fun K "_law_odd" "_law_odd" sOdd f fd) (GO : FnOk P w K mg base CX0 2 fO fdO ["_law_supply_here", "_law_items"] (spOne K)) (mO : mg "_law_one" = some (.ref fO)) (kO : PySem.W.keepIn K (.ref fO) = true) (bO : Binds K fdO ["_law_supply_here", "_law_items"] []) :
    FnOk P w K mg base CX0 3 f fd ["_law_supply_here"] (spOdd K) := by
  refine F.ok scOdd (fun vs H Q E h => ?_) (fun cdv A outer s H vs Q E hr h => ?_)
  · obtain ⟨d, c, z, rfl, _⟩ := h
    rfl
  · obtain ⟨d, c, z, rfl, S, k⟩ := h
    have hu := hu_of hr
    have xr : SameX H H d c := SameX.refl H d c
    refine ⟨_, pss_cons (ps_set (i := 1) scOdd.nd rfl (.inl rfl) (pe_lst (pa_cons pe_non (pa_cons pe_bl (pa_cons pe_bl (pa_cons (pe_un un_neg pe_int) (pa_cons pe_int (pa_cons pe_int (pa_cons pe_int (pa_cons (pe_op op_pow pe_int pe_int) (pa_cons (pe_op op_add (pe_op op_pow pe_int pe_int) pe_int) (pa_cons (pe_op op_pow pe_int pe_int) (pa_cons pe_str (pa_cons pe_str (pa_cons pe_str pa_nil)))))))))))))))
      (pss_cons (ps_set (i := 1) scOdd.nd rfl (.inl rfl) (pe_op op_cat (pv 1) (pe_lst (pa_cons pe_str (pa_cons pe_str (pa_cons (pe_tup pa_nil) (pa_cons (pe_lst pa_nil) (pa_cons pe_dnewK (pa_cons (pe_tup (pa_cons pe_int pa_nil)) (pa_cons (pe_lst (pa_cons pe_int pa_nil)) (pa_cons (pe_tup (pa_cons pe_bl pa_nil)) (pa_cons (pe_tup (pa_cons pe_int (pa_cons pe_int pa_nil))) (pa_cons (pe_tup (pa_cons (pe_tup (pa_cons pe_int pa_nil)) pa_nil)) pa_nil)))))))))))))
      (pss_one (ps_ret (pe_call GO hr (by rfl) mO kO bO .nil pass0 (pa_cons (pv 0) (pa_cons (pe_op op_cat (pv 1) (pe_lst (pa_cons (pe_disp (pps_cons pe_str pe_int pps_nil) (by rfl) (by rfl) (fun z => by cases z) (by decide)) (pa_cons (pe_tup (pa_cons pe_non (pa_cons pe_int pa_nil))) pa_nil)))) pa_nil)))))), ?_⟩
    refine ⟨1, rfl, _, _, rfl, rfl, ⟨by decide, by decide, by decide⟩, _, _, rfl, rfl, ⟨by decide, by decide, by decide⟩, _, _, rfl, rfl, _, _, rfl, rfl, ⟨by decide, by decide, by decide⟩, by show 13 ≤ sizeLine; decide, fun q1 h1 => ?_⟩
    show L2.tSeq _ _ _ _ (upd H q1 (.lst [.non, .bl true, .bl false, .int (-1), .int 0, .int 1, .int 2, .int 1000000000000, .int 1000000000001, .int (10 ^ 39), .str "", .str "0", .str "sorted"]))
    obtain ⟨S1, x1, f1⟩ := new_step (o := .lst [.non, .bl true, .bl false, .int (-1), .int 0, .int 1, .int 2, .int 1000000000000, .int 1000000000001, .int (10 ^ 39), .str "", .str "0", .str "sorted"]) S h1
    generalize upd H q1 (.lst [.non, .bl true, .bl false, .int (-1), .int 0, .int 1, .int 2, .int 1000000000000, .int 1000000000001, .int (10 ^ 39), .str "", .str "0", .str "sorted"]) = H1 at S1 x1 f1 ⊢
    refine ⟨_, rfl, Nat.zero_le _, fun q2 h2 => ?_⟩
    obtain ⟨S2, x2, f2⟩ := new_step (o := .tup []) S1 h2
    generalize upd H1 q2 (.tup []) = H2 at S2 x2 f2 ⊢
    refine ⟨Nat.zero_le _, fun q3 h3 => ?_⟩
    obtain ⟨S3, x3, f3⟩ := new_step (o := .lst []) S2 h3
    generalize upd H2 q3 (.lst []) = H3 at S3 x3 f3 ⊢
    refine fun q4 h4 => ?_
    obtain ⟨S4, x4, f4⟩ := new_step (o := .dK []) S3 h4
    generalize upd H3 q4 (.dK []) = H4 at S4 x4 f4 ⊢
    refine ⟨(by show 1 ≤ sizeLine; decide), fun q5 h5 => ?_⟩
    obtain ⟨S5, x5, f5⟩ := new_step (o := .tup [.int 0]) S4 h5
    generalize upd H4 q5 (.tup [.int 0]) = H5 at S5 x5 f5 ⊢
    refine ⟨(by show 1 ≤ sizeLine; decide), fun q6 h6 => ?_⟩
    obtain ⟨S6, x6, f6⟩ := new_step (o := .lst [.int 1]) S5 h6
    generalize upd H5 q6 (.lst [.int 1]) = H6 at S6 x6 f6 ⊢
    refine ⟨(by show 1 ≤ sizeLine; decide), fun q7 h7 => ?_⟩
    obtain ⟨S7, x7, f7⟩ := new_step (o := .tup [.bl true]) S6 h7
    generalize upd H6 q7 (.tup [.bl true]) = H7 at S7 x7 f7 ⊢
    refine ⟨(by show 2 ≤ sizeLine; decide), fun q8 h8 => ?_⟩
    obtain ⟨S8, x8, f8⟩ := new_step (o := .tup [.int 0, .int 0]) S7 h8
    generalize upd H7 q8 (.tup [.int 0, .int 0]) = H8 at S8 x8 f8 ⊢
    refine ⟨(by show 1 ≤ sizeLine; decide), fun q9 h9 => ?_⟩
    obtain ⟨S9, x9, f9⟩ := new_step (o := .tup [.int 1]) S8 h9
    generalize upd H8 q9 (.tup [.int 1]) = H9 at S9 x9 f9 ⊢
    refine ⟨(by show 1 ≤ sizeLine; decide), fun q10 h10 => ?_⟩
    obtain ⟨S10, x10, f10⟩ := new_step (o := .tup [.ref q9]) S9 h10
    generalize upd H9 q10 (.tup [.ref q9]) = H10 at S10 x10 f10 ⊢
    refine ⟨by show 10 ≤ sizeLine; decide, fun q11 h11 => ?_⟩
    obtain ⟨S11, x11, f11⟩ := new_step (o := .lst [.str "late 1 1", .str "0: 1", .ref q2, .ref q3, .ref q4, .ref q5, .ref q6, .ref q7, .ref q8, .ref q10]) S10 h11
    generalize upd H10 q11 (.lst [.str "late 1 1", .str "0: 1", .ref q2, .ref q3, .ref q4, .ref q5, .ref q6, .ref q7, .ref q8, .ref q10]) = H11 at S11 x11 f11 ⊢
    have g1 := hide_same _ _ (hide_mono ((((((((((x2).trans x3).trans x4).trans x5).trans x6).trans x7).trans x8).trans x9).trans x10).trans x11) _ _ f1)
    have g11 := hide_same _ _ f11
    refine ⟨q1, q11, _, _, rfl, rfl, g1, g11, by show 13 + 10 ≤ sizeLine; decide, fun q12 h12 => ?_⟩
    obtain ⟨S12, x12, f12⟩ := new_step (o := .lst ([.non, .bl true, .bl false, .int (-1), .int 0, .int 1, .int 2, .int 1000000000000, .int 1000000000001, .int (10 ^ 39), .str "", .str "0", .str "sorted"] ++ [.str "late 1 1", .str "0: 1", .ref q2, .ref q3, .ref q4, .ref q5, .ref q6, .ref q7, .ref q8, .ref q10])) S11 h12
    generalize upd H11 q12 (.lst ([.non, .bl true, .bl false, .int (-1), .int 0, .int 1, .int 2, .int 1000000000000, .int 1000000000001, .int (10 ^ 39), .str "", .str "0", .str "sorted"] ++ [.str "late 1 1", .str "0: 1", .ref q2, .ref q3, .ref q4, .ref q5, .ref q6, .ref q7, .ref q8, .ref q10])) = H12 at S12 x12 f12 ⊢
    refine ⟨_, rfl, _, rfl, fun q13 h13 => ⟨upd_same, [(.inr "a", .int 0)], rfl, by decide, ?_⟩⟩
    show tCons _ _ _ (upd (upd H12 q13 (.dK [])) q13 (.dK [(.inr "a", .int 0)])) _
    rw [upd_upd]
    obtain ⟨S13, x13, f13⟩ := new_step (o := .dK [(.inr "a", .int 0)]) S12 h13
    generalize upd H12 q13 (.dK [(.inr "a", .int 0)]) = H13 at S13 x13 f13 ⊢
    refine ⟨by show 2 ≤ sizeLine; decide, fun q14 h14 => ?_⟩
    obtain ⟨S14, x14, f14⟩ := new_step (o := .tup [.non, .int 1]) S13 h14
    generalize upd H13 q14 (.tup [.non, .int 1]) = H14 at S14 x14 f14 ⊢
    refine ⟨by show 2 ≤ sizeLine; decide, fun q15 h15 => ?_⟩
    obtain ⟨S15, x15, f15⟩ := new_step (o := .lst [.ref q13, .ref q14]) S14 h15
    generalize upd H14 q15 (.lst [.ref q13, .ref q14]) = H15 at S15 x15 f15 ⊢
    have g12 := hide_same _ _ (hide_mono (((x13).trans x14).trans x15) _ _ f12)
    have g15 := hide_same _ _ f15
    refine ⟨q12, q15, _, _, rfl, rfl, g12, g15, by show 23 + 2 ≤ sizeLine; decide, fun q16 h16 => ?_⟩
    obtain ⟨S16, x16, f16⟩ := new_step (o := .lst (([.non, .bl true, .bl false, .int (-1), .int 0, .int 1, .int 2, .int 1000000000000, .int 1000000000001, .int (10 ^ 39), .str "", .str "0", .str "sorted"] ++ [.str "late 1 1", .str "0: 1", .ref q2, .ref q3, .ref q4, .ref q5, .ref q6, .ref q7, .ref q8, .ref q10]) ++ [.ref q13, .ref q14])) S15 h16
    generalize upd H15 q16 (.lst (([.non, .bl true, .bl false, .int (-1), .int 0, .int 1, .int 2, .int 1000000000000, .int 1000000000001, .int (10 ^ 39), .str "", .str "0", .str "sorted"] ++ [.str "late 1 1", .str "0: 1", .ref q2, .ref q3, .ref q4, .ref q5, .ref q6, .ref q7, .ref q8, .ref q10]) ++ [.ref q13, .ref q14])) = H16 at S16 x16 f16 ⊢
    have xa : SameX H H16 d c := (((((((((((((((x1).trans x2).trans x3).trans x4).trans x5).trans x6).trans x7).trans x8).trans x9).trans x10).trans x11).trans x12).trans x13).trans x14).trans x15).trans x16
    have hall : DqAll K (hideX H16 d c z) (([.non, .bl true, .bl false, .int (-1), .int 0, .int 1, .int 2, .int 1000000000000, .int 1000000000001, .int (10 ^ 39), .str "", .str "0", .str "sorted"] ++ [.str "late 1 1", .str "0: 1", .ref q2, .ref q3, .ref q4, .ref q5, .ref q6, .ref q7, .ref q8, .ref q10]) ++ [.ref q13, .ref q14]) oddMenu := by
      exact .cons .non (.cons (.bl true) (.cons (.bl false) (.cons (.int (-1)) (.cons (.int 0) (.cons (.int 1) (.cons (.int 2) (.cons (.int 1000000000000) (.cons (.int 1000000000001) (.cons (.int (10 ^ 39)) (.cons (.str _) (.cons (.str _) (.cons (.str _) (.cons (.str _) (.cons (.str _) (.cons (.tup (SqT.of (hide_mono ((((((((((((((x3).trans x4).trans x5).trans x6).trans x7).trans x8).trans x9).trans x10).trans x11).trans x12).trans x13).trans x14).trans x15).trans x16) _ _ f2)) .nil) (.cons (.lst (SqL.of (hide_mono (((((((((((((x4).trans x5).trans x6).trans x7).trans x8).trans x9).trans x10).trans x11).trans x12).trans x13).trans x14).trans x15).trans x16) _ _ f3)) .nil) (.cons (.dct (kvs := []) (hide_mono ((((((((((((x5).trans x6).trans x7).trans x8).trans x9).trans x10).trans x11).trans x12).trans x13).trans x14).trans x15).trans x16) _ _ f4)) (.cons (.tup (SqT.of (hide_mono (((((((((((x6).trans x7).trans x8).trans x9).trans x10).trans x11).trans x12).trans x13).trans x14).trans x15).trans x16) _ _ f5)) (.cons (.int 0) .nil)) (.cons (.lst (SqL.of (hide_mono ((((((((((x7).trans x8).trans x9).trans x10).trans x11).trans x12).trans x13).trans x14).trans x15).trans x16) _ _ f6)) (.cons (.int 1) .nil)) (.cons (.tup (SqT.of (hide_mono (((((((((x8).trans x9).trans x10).trans x11).trans x12).trans x13).trans x14).trans x15).trans x16) _ _ f7)) (.cons (.bl true) .nil)) (.cons (.tup (SqT.of (hide_mono ((((((((x9).trans x10).trans x11).trans x12).trans x13).trans x14).trans x15).trans x16) _ _ f8)) (.cons (.int 0) (.cons (.int 0) .nil))) (.cons (.tup (SqT.of (hide_mono ((((((x11).trans x12).trans x13).trans x14).trans x15).trans x16) _ _ f10)) (.cons (.tup (SqT.of (hide_mono (((((((x10).trans x11).trans x12).trans x13).trans x14).trans x15).trans x16) _ _ f9)) (.cons (.int 1) .nil)) .nil)) (.cons (.dct (kvs := [("a", 0)]) (hide_mono (((x14).trans x15).trans x16) _ _ f13)) (.cons (.tup (SqT.of (hide_mono ((x15).trans x16) _ _ f14)) (.cons .non (.cons (.int 1) .nil))) .nil))))))))))))))))))))))))
    refine ⟨d, c, z, q16, _, rfl, S16.s, SqL.of f16, (fun z => by cases z), by show 25 ≤ 1000; decide, fun v H17 hv S17 x17 => ?_⟩
    obtain ⟨dd, hd, hq⟩ := dqAll_mem hall v hv
    exact k v dd H17 hd (Dq.same (hide_mono x17) hq) (S16.next S17 x17) (xa.trans x17)
end
end LW

namespace KX
open PySem L2
/-- what the written part says of the classes of errors -/
structure Txt (K : PySem.W.Frag) (mg : Str → Option Value) (C : Nat → Addr) (R : Addr) : Prop where
  m0 : mg "BadBatch" = some (.ref (C 0))
  m1 : mg "BadLosses" = some (.ref (C 1))
  m2 : mg "BadMarks" = some (.ref (C 2))
  m3 : mg "Busy" = some (.ref (C 3))
  m4 : mg "NothingToUndo" = some (.ref (C 4))
  m5 : mg "TooManyActions" = some (.ref (C 5))
  m6 : mg "BadRow" = some (.ref (C 6))
  m7 : mg "BadText" = some (.ref (C 7))
  m8 : mg "NoIndex" = some (.ref (C 8))
  m9 : mg "NoKey" = some (.ref (C 9))
  m10 : mg "NoPlace" = some (.ref (C 10))
  m11 : mg "NoRounds" = some (.ref (C 11))
  m12 : mg "NoThreshold" = some (.ref (C 12))
  m13 : mg "NoVersion" = some (.ref (C 13))
  m14 : mg "Rejected" = some (.ref (C 14))
  m15 : mg "TooLong" = some (.ref (C 15))
  m16 : mg "TooMany" = some (.ref (C 16))
  m17 : mg "TooSlow" = some (.ref (C 17))
  mR : mg "RowError" = some (.ref R)
  er : ∀ i, i < 18 → ErrC K (C i)
  kit : ∀ i j, i < 18 → j < 18 → PySem.W.kitOne K (.ref (C i)) (.ref (C j)) = some (decide (i = j))
  kR : ∀ i, i < 18 → PySem.W.kitOne K (.ref (C i)) (.ref R) = some true
  kV : ∀ i, i < 18 → PySem.W.kitOne K (.ref (C i)) (.type "ValueError") = some true
/-- the places of a class among n from off on -/
def hits (off n i : Nat) : List Int := ((List.range n).filter fun j => decide (i = off + j)).map fun (j : Nat) => (j : Int)
theorem hits_step (off n i : Nat) : hits off (n + 1) i = hits off n i ++ (if i = off + n then [(n : Int)] else []) := by
  unfold hits
  rw [List.range_succ, List.filter_append, List.map_append]
  by_cases q : i = off + n
  · rw [if_pos q, List.filter_cons_of_pos (by simpa using q)]; rfl
  · rw [if_neg q, List.filter_cons_of_neg (by simpa using q)]; rfl
theorem hits_len (off n i : Nat) : (hits off n i).length ≤ n := by
  unfold hits
  rw [List.length_map]
  have := List.length_filter_le (fun j => decide (i = off + j)) (List.range n)
  rw [List.length_range] at this
  exact this
def kindL (off n i : Nat) : List V := (List.range n).map fun j => V.bl (decide (i = off + j))
theorem kindL_at {off n i j : Nat} (h : j < n) : (kindL off n i)[j]? = some (V.bl (decide (i = off + j))) := by
  unfold kindL
  rw [List.getElem?_map, List.getElem?_range h]; rfl
def spKinds (C : Nat → Addr) (off n : Nat) : Sp := fun vs H Q _ => ∃ (a : Addr) (i : Nat), vs = [.ref a] ∧ i < 18 ∧ Held H a (C i) ∧ ∀ l H', Same H H' → H' l = some (.lst ((hits off n i).map V.int)) → Q (.ref l) H'
end KX
namespace LW
open PySem L2 KX
section
variable {P : Program} {w : World} {K : PySem.W.Frag} {mg : Str → Option Value} {base : Heap} {C : Nat → Addr} {R : Addr}
abbrev nKind : List Str := ["_law_error", "_law_kinds", "_law_k"]
abbrev sPlain : Stmt := top 37
theorem scPlain : FnScope nKind ["_law_error"] (defScope sPlain) := ⟨rfl, rfl, rfl, by decide +kernel, rfl, by decide +kernel, by decide +kernel⟩
theorem ok_plain {f : Addr} {fd : FuncData} (F : Fun K "_law_plain" "_law_plain" sPlain f fd) (T : Txt K mg C R) (misi : mg "isinstance" = none) (mran : mg "range" = none) : FnOk P w K mg base CX0 1 f fd ["_law_error"] (spKinds C 0 6) := by
  refine F.ok scPlain (fun vs H Q E h => ?_) (fun cdv A outer s H vs Q E hr h => ?_)
  · obtain ⟨a, i, rfl, _⟩ := h
    rfl
  · obtain ⟨a, i, rfl, hi, hh, k⟩ := h
    refine ⟨_, pss_cons (ps_set (i := 1) scPlain.nd rfl (.inr rfl) (pe_lst (pa_cons (pe_callB call_isX (by rfl) misi (by decide +kernel) (pa_cons (pv 0) (pa_cons (pe_glob (v := .ref (C 0)) rfl T.m0 rfl) pa_nil))) (pa_cons (pe_callB call_isX (by rfl) misi (by decide +kernel) (pa_cons (pv 0) (pa_cons (pe_glob (v := .ref (C 1)) rfl T.m1 rfl) pa_nil))) (pa_cons (pe_callB call_isX (by rfl) misi (by decide +kernel) (pa_cons (pv 0) (pa_cons (pe_glob (v := .ref (C 2)) rfl T.m2 rfl) pa_nil))) pa_nil))))) (
      pss_cons (ps_set (i := 1) scPlain.nd rfl (.inr rfl) (pe_op op_cat (pv 1) (pe_lst (pa_cons (pe_callB call_isX (by rfl) misi (by decide +kernel) (pa_cons (pv 0) (pa_cons (pe_glob (v := .ref (C 3)) rfl T.m3 rfl) pa_nil))) (pa_cons (pe_callB call_isX (by rfl) misi (by decide +kernel) (pa_cons (pv 0) (pa_cons (pe_glob (v := .ref (C 4)) rfl T.m4 rfl) pa_nil))) pa_nil))))) (
      pss_cons (ps_expr (pe_bm PySem.F.plainAttrs_list PySem.F.slot_list_append PySem.F.type_list_append mt_append (pv 1) (pa_cons (pe_callB call_isX (by rfl) misi (by decide +kernel) (pa_cons (pv 0) (pa_cons (pe_glob (v := .ref (C 5)) rfl T.m5 rfl) pa_nil))) pa_nil))) (
      pss_one (ps_ret (pe_lc (own := [("_law_k", 2)]) (g := gName 2) rfl scPlain.nd (pi_range1 (by rfl) mran (pa_cons pe_int pa_nil)) (blkOk_by (own := [("_law_k", 2)]) (N := nKind) (sc := defScope sPlain) (by decide +kernel)) (fun _ _ _ _ _ => pg_name (i := 2) scPlain.nd rfl (.inl rfl))
        (fun _ _ _ _ _ => pts_one (pt_val (pe_ix (show IxR _ (rIxL K) from ix_list) (pv 1) (pv 2) (fun _ _ => rfl)))) (fun _ _ _ _ _ => pv 2)))))), ?_⟩
    refine ⟨_, rfl, a, C i, _, _, _, rfl, hh, T.er i hi, .own _, T.kit i 0 hi (by decide), _, rfl, a, C i, _, _, _, rfl, hh, T.er i hi, .own _, T.kit i 1 hi (by decide), _, rfl, a, C i, _, _, _, rfl, hh, T.er i hi, .own _, T.kit i 2 hi (by decide), by show 3 ≤ sizeLine; decide, fun g0 hg0 => ?_⟩
    have s0 : Same H (upd H g0 (.lst [.bl (decide (i = 0)), .bl (decide (i = 1)), .bl (decide (i = 2))])) := same_new hg0
    have f0 : upd H g0 (.lst [.bl (decide (i = 0)), .bl (decide (i = 1)), .bl (decide (i = 2))]) g0 = some (.lst [.bl (decide (i = 0)), .bl (decide (i = 1)), .bl (decide (i = 2))]) := upd_same
    show tSeq _ _ _ _ (upd H g0 (.lst [.bl (decide (i = 0)), .bl (decide (i = 1)), .bl (decide (i = 2))]))
    generalize upd H g0 (.lst [.bl (decide (i = 0)), .bl (decide (i = 1)), .bl (decide (i = 2))]) = H0 at s0 f0 ⊢
    have hh0 := hh.same s0
    have t0 := s0
    have c0 := f0
    refine ⟨_, rfl, _, rfl, a, C i, _, _, _, rfl, hh0, T.er i hi, .own _, T.kit i 3 hi (by decide), _, rfl, a, C i, _, _, _, rfl, hh0, T.er i hi, .own _, T.kit i 4 hi (by decide), by show 2 ≤ sizeLine; decide, fun g1 hg1 => ?_⟩
    have s1 : Same H0 (upd H0 g1 (.lst [.bl (decide (i = 3)), .bl (decide (i = 4))])) := same_new hg1
    have f1 : upd H0 g1 (.lst [.bl (decide (i = 3)), .bl (decide (i = 4))]) g1 = some (.lst [.bl (decide (i = 3)), .bl (decide (i = 4))]) := upd_same
    generalize upd H0 g1 (.lst [.bl (decide (i = 3)), .bl (decide (i = 4))]) = H1 at s1 f1 ⊢
    have hh1 := hh0.same s1
    refine ⟨g0, g1, _, _, rfl, rfl, s1 _ _ c0, f1, by show 3 + 2 ≤ sizeLine; decide, fun p1 hp1 => ?_⟩
    have sp1 : Same H1 (upd H1 p1 (.lst [.bl (decide (i = 0)), .bl (decide (i = 1)), .bl (decide (i = 2)), .bl (decide (i = 3)), .bl (decide (i = 4))])) := same_new hp1
    have c1 : upd H1 p1 (.lst [.bl (decide (i = 0)), .bl (decide (i = 1)), .bl (decide (i = 2)), .bl (decide (i = 3)), .bl (decide (i = 4))]) p1 = some (.lst [.bl (decide (i = 0)), .bl (decide (i = 1)), .bl (decide (i = 2)), .bl (decide (i = 3)), .bl (decide (i = 4))]) := upd_same
    show tSeq _ _ _ _ (upd H1 p1 (.lst [.bl (decide (i = 0)), .bl (decide (i = 1)), .bl (decide (i = 2)), .bl (decide (i = 3)), .bl (decide (i = 4))]))
    generalize upd H1 p1 (.lst [.bl (decide (i = 0)), .bl (decide (i = 1)), .bl (decide (i = 2)), .bl (decide (i = 3)), .bl (decide (i = 4))]) = G1 at sp1 c1 ⊢
    have hn1 := hp1
    have hp1 := hh1.same sp1
    have t1 := (t0.trans s1).trans sp1
    refine ⟨_, rfl, .inl ⟨rfl, _, SqL.of c1⟩, _, rfl, a, C i, _, _, _, rfl, hp1, T.er i hi, .own _, T.kit i 5 hi (by decide), p1, _, _, rfl, rfl, c1, by show 5 < sizeLine; decide, ?_⟩
    have tz : Same H (upd G1 p1 (.lst [.bl (decide (i = 0)), .bl (decide (i = 1)), .bl (decide (i = 2)), .bl (decide (i = 3)), .bl (decide (i = 4)), .bl (decide (i = 5))])) := fun b o e => by
      rw [upd_ne (fun z => ?_)]
      · exact t1 _ _ e
      · have e2 := t0.trans s1 _ _ e
        rw [z] at e2
        rw [hn1] at e2; cases e2
    have cz : upd G1 p1 (.lst [.bl (decide (i = 0)), .bl (decide (i = 1)), .bl (decide (i = 2)), .bl (decide (i = 3)), .bl (decide (i = 4)), .bl (decide (i = 5))]) p1 = some (.lst [.bl (decide (i = 0)), .bl (decide (i = 1)), .bl (decide (i = 2)), .bl (decide (i = 3)), .bl (decide (i = 4)), .bl (decide (i = 5))]) := upd_same
    simp only [List.cons_append, List.nil_append]
    generalize upd G1 p1 (.lst [.bl (decide (i = 0)), .bl (decide (i = 1)), .bl (decide (i = 2)), .bl (decide (i = 3)), .bl (decide (i = 4)), .bl (decide (i = 5))]) = Hz at tz cz ⊢
    have cz : Hz p1 = some (.lst (kindL 0 6 i)) := cz
    refine ⟨6, rfl, by decide, by decide, fun D hD => ?_⟩
    refine lc_range (lo := 0) (n := 6) (fun m Hx => At Hz Hx D ((hits 0 m i).map V.int)) (At.nil hD) ?_ ?_
    · rintro m Hx hm aa
      rw [show (0 : Int) + (m : Int) = (m : Int) by omega]
      refine ⟨rfl, _, rfl, _, rfl, p1, _, _, _, rfl, rfl, SqL.of (aa.1 _ _ cz), atI_nat (kindL_at hm), _, rfl, ?_⟩
      rw [hits_step]
      by_cases q : i = 0 + m
      · rw [if_pos q]
        refine ite2 (fun _ => ?_) (fun q2 => absurd (decide_eq_true q) q2)
        refine ⟨_, rfl, _, aa.2, ?_, ?_⟩
        · rw [List.length_map]
          have := hits_len 0 m i
          exact small1000 (by omega)
        · rw [List.map_append]
          exact aa.push hD _
      · rw [if_neg q, List.append_nil]
        exact ite2 (fun q2 => absurd (of_decide_eq_true q2) q) (fun _ => aa)
    · intro Hx aa
      exact k D Hx (tz.trans aa.1) aa.2
abbrev sFilled : Stmt := top 38
theorem scFilled : FnScope nKind ["_law_error"] (defScope sFilled) := ⟨rfl, rfl, rfl, by decide +kernel, rfl, by decide +kernel, by decide +kernel⟩
theorem ok_filled {f : Addr} {fd : FuncData} (F : Fun K "_law_filled" "_law_filled" sFilled f fd) (T : Txt K mg C R) (misi : mg "isinstance" = none) (mran : mg "range" = none) : FnOk P w K mg base CX0 1 f fd ["_law_error"] (spKinds C 6 12) := by
  refine F.ok scFilled (fun vs H Q E h => ?_) (fun cdv A outer s H vs Q E hr h => ?_)
  · obtain ⟨a, i, rfl, _⟩ := h
    rfl
  · obtain ⟨a, i, rfl, hi, hh, k⟩ := h
    refine ⟨_, pss_cons (ps_set (i := 1) scFilled.nd rfl (.inr rfl) (pe_lst (pa_cons (pe_callB call_isX (by rfl) misi (by decide +kernel) (pa_cons (pv 0) (pa_cons (pe_glob (v := .ref (C 6)) rfl T.m6 rfl) pa_nil))) (pa_cons (pe_callB call_isX (by rfl) misi (by decide +kernel) (pa_cons (pv 0) (pa_cons (pe_glob (v := .ref (C 7)) rfl T.m7 rfl) pa_nil))) (pa_cons (pe_callB call_isX (by rfl) misi (by decide +kernel) (pa_cons (pv 0) (pa_cons (pe_glob (v := .ref (C 8)) rfl T.m8 rfl) pa_nil))) pa_nil))))) (
      pss_cons (ps_set (i := 1) scFilled.nd rfl (.inr rfl) (pe_op op_cat (pv 1) (pe_lst (pa_cons (pe_callB call_isX (by rfl) misi (by decide +kernel) (pa_cons (pv 0) (pa_cons (pe_glob (v := .ref (C 9)) rfl T.m9 rfl) pa_nil))) (pa_cons (pe_callB call_isX (by rfl) misi (by decide +kernel) (pa_cons (pv 0) (pa_cons (pe_glob (v := .ref (C 10)) rfl T.m10 rfl) pa_nil))) (pa_cons (pe_callB call_isX (by rfl) misi (by decide +kernel) (pa_cons (pv 0) (pa_cons (pe_glob (v := .ref (C 11)) rfl T.m11 rfl) pa_nil))) pa_nil)))))) (
      pss_cons (ps_set (i := 1) scFilled.nd rfl (.inr rfl) (pe_op op_cat (pv 1) (pe_lst (pa_cons (pe_callB call_isX (by rfl) misi (by decide +kernel) (pa_cons (pv 0) (pa_cons (pe_glob (v := .ref (C 12)) rfl T.m12 rfl) pa_nil))) (pa_cons (pe_callB call_isX (by rfl) misi (by decide +kernel) (pa_cons (pv 0) (pa_cons (pe_glob (v := .ref (C 13)) rfl T.m13 rfl) pa_nil))) pa_nil))))) (
      pss_cons (ps_set (i := 1) scFilled.nd rfl (.inr rfl) (pe_op op_cat (pv 1) (pe_lst (pa_cons (pe_callB call_isX (by rfl) misi (by decide +kernel) (pa_cons (pv 0) (pa_cons (pe_glob (v := .ref (C 14)) rfl T.m14 rfl) pa_nil))) (pa_cons (pe_callB call_isX (by rfl) misi (by decide +kernel) (pa_cons (pv 0) (pa_cons (pe_glob (v := .ref (C 15)) rfl T.m15 rfl) pa_nil))) pa_nil))))) (
      pss_cons (ps_set (i := 1) scFilled.nd rfl (.inr rfl) (pe_op op_cat (pv 1) (pe_lst (pa_cons (pe_callB call_isX (by rfl) misi (by decide +kernel) (pa_cons (pv 0) (pa_cons (pe_glob (v := .ref (C 16)) rfl T.m16 rfl) pa_nil))) (pa_cons (pe_callB call_isX (by rfl) misi (by decide +kernel) (pa_cons (pv 0) (pa_cons (pe_glob (v := .ref (C 17)) rfl T.m17 rfl) pa_nil))) pa_nil))))) (
      pss_one (ps_ret (pe_lc (own := [("_law_k", 2)]) (g := gName 2) rfl scFilled.nd (pi_range1 (by rfl) mran (pa_cons pe_int pa_nil)) (blkOk_by (own := [("_law_k", 2)]) (N := nKind) (sc := defScope sFilled) (by decide +kernel)) (fun _ _ _ _ _ => pg_name (i := 2) scFilled.nd rfl (.inl rfl))
        (fun _ _ _ _ _ => pts_one (pt_val (pe_ix (show IxR _ (rIxL K) from ix_list) (pv 1) (pv 2) (fun _ _ => rfl)))) (fun _ _ _ _ _ => pv 2)))))))), ?_⟩
    refine ⟨_, rfl, a, C i, _, _, _, rfl, hh, T.er i hi, .own _, T.kit i 6 hi (by decide), _, rfl, a, C i, _, _, _, rfl, hh, T.er i hi, .own _, T.kit i 7 hi (by decide), _, rfl, a, C i, _, _, _, rfl, hh, T.er i hi, .own _, T.kit i 8 hi (by decide), by show 3 ≤ sizeLine; decide, fun g0 hg0 => ?_⟩
    have s0 : Same H (upd H g0 (.lst [.bl (decide (i = 6)), .bl (decide (i = 7)), .bl (decide (i = 8))])) := same_new hg0
    have f0 : upd H g0 (.lst [.bl (decide (i = 6)), .bl (decide (i = 7)), .bl (decide (i = 8))]) g0 = some (.lst [.bl (decide (i = 6)), .bl (decide (i = 7)), .bl (decide (i = 8))]) := upd_same
    show tSeq _ _ _ _ (upd H g0 (.lst [.bl (decide (i = 6)), .bl (decide (i = 7)), .bl (decide (i = 8))]))
    generalize upd H g0 (.lst [.bl (decide (i = 6)), .bl (decide (i = 7)), .bl (decide (i = 8))]) = H0 at s0 f0 ⊢
    have hh0 := hh.same s0
    have t0 := s0
    have c0 := f0
    refine ⟨_, rfl, _, rfl, a, C i, _, _, _, rfl, hh0, T.er i hi, .own _, T.kit i 9 hi (by decide), _, rfl, a, C i, _, _, _, rfl, hh0, T.er i hi, .own _, T.kit i 10 hi (by decide), _, rfl, a, C i, _, _, _, rfl, hh0, T.er i hi, .own _, T.kit i 11 hi (by decide), by show 3 ≤ sizeLine; decide, fun g1 hg1 => ?_⟩
    have s1 : Same H0 (upd H0 g1 (.lst [.bl (decide (i = 9)), .bl (decide (i = 10)), .bl (decide (i = 11))])) := same_new hg1
    have f1 : upd H0 g1 (.lst [.bl (decide (i = 9)), .bl (decide (i = 10)), .bl (decide (i = 11))]) g1 = some (.lst [.bl (decide (i = 9)), .bl (decide (i = 10)), .bl (decide (i = 11))]) := upd_same
    generalize upd H0 g1 (.lst [.bl (decide (i = 9)), .bl (decide (i = 10)), .bl (decide (i = 11))]) = H1 at s1 f1 ⊢
    have hh1 := hh0.same s1
    refine ⟨g0, g1, _, _, rfl, rfl, s1 _ _ c0, f1, by show 3 + 3 ≤ sizeLine; decide, fun p1 hp1 => ?_⟩
    have sp1 : Same H1 (upd H1 p1 (.lst [.bl (decide (i = 6)), .bl (decide (i = 7)), .bl (decide (i = 8)), .bl (decide (i = 9)), .bl (decide (i = 10)), .bl (decide (i = 11))])) := same_new hp1
    have c1 : upd H1 p1 (.lst [.bl (decide (i = 6)), .bl (decide (i = 7)), .bl (decide (i = 8)), .bl (decide (i = 9)), .bl (decide (i = 10)), .bl (decide (i = 11))]) p1 = some (.lst [.bl (decide (i = 6)), .bl (decide (i = 7)), .bl (decide (i = 8)), .bl (decide (i = 9)), .bl (decide (i = 10)), .bl (decide (i = 11))]) := upd_same
    show tSeq _ _ _ _ (upd H1 p1 (.lst [.bl (decide (i = 6)), .bl (decide (i = 7)), .bl (decide (i = 8)), .bl (decide (i = 9)), .bl (decide (i = 10)), .bl (decide (i = 11))]))
    generalize upd H1 p1 (.lst [.bl (decide (i = 6)), .bl (decide (i = 7)), .bl (decide (i = 8)), .bl (decide (i = 9)), .bl (decide (i = 10)), .bl (decide (i = 11))]) = G1 at sp1 c1 ⊢
    have hn1 := hp1
    have hp1 := hh1.same sp1
    have t1 := (t0.trans s1).trans sp1
    refine ⟨_, rfl, _, rfl, a, C i, _, _, _, rfl, hp1, T.er i hi, .own _, T.kit i 12 hi (by decide), _, rfl, a, C i, _, _, _, rfl, hp1, T.er i hi, .own _, T.kit i 13 hi (by decide), by show 2 ≤ sizeLine; decide, fun g2 hg2 => ?_⟩
    have s2 : Same G1 (upd G1 g2 (.lst [.bl (decide (i = 12)), .bl (decide (i = 13))])) := same_new hg2
    have f2 : upd G1 g2 (.lst [.bl (decide (i = 12)), .bl (decide (i = 13))]) g2 = some (.lst [.bl (decide (i = 12)), .bl (decide (i = 13))]) := upd_same
    generalize upd G1 g2 (.lst [.bl (decide (i = 12)), .bl (decide (i = 13))]) = H2 at s2 f2 ⊢
    have hh2 := hp1.same s2
    refine ⟨p1, g2, _, _, rfl, rfl, s2 _ _ c1, f2, by show 6 + 2 ≤ sizeLine; decide, fun p2 hp2 => ?_⟩
    have sp2 : Same H2 (upd H2 p2 (.lst [.bl (decide (i = 6)), .bl (decide (i = 7)), .bl (decide (i = 8)), .bl (decide (i = 9)), .bl (decide (i = 10)), .bl (decide (i = 11)), .bl (decide (i = 12)), .bl (decide (i = 13))])) := same_new hp2
    have c2 : upd H2 p2 (.lst [.bl (decide (i = 6)), .bl (decide (i = 7)), .bl (decide (i = 8)), .bl (decide (i = 9)), .bl (decide (i = 10)), .bl (decide (i = 11)), .bl (decide (i = 12)), .bl (decide (i = 13))]) p2 = some (.lst [.bl (decide (i = 6)), .bl (decide (i = 7)), .bl (decide (i = 8)), .bl (decide (i = 9)), .bl (decide (i = 10)), .bl (decide (i = 11)), .bl (decide (i = 12)), .bl (decide (i = 13))]) := upd_same
    show tSeq _ _ _ _ (upd H2 p2 (.lst [.bl (decide (i = 6)), .bl (decide (i = 7)), .bl (decide (i = 8)), .bl (decide (i = 9)), .bl (decide (i = 10)), .bl (decide (i = 11)), .bl (decide (i = 12)), .bl (decide (i = 13))]))
    generalize upd H2 p2 (.lst [.bl (decide (i = 6)), .bl (decide (i = 7)), .bl (decide (i = 8)), .bl (decide (i = 9)), .bl (decide (i = 10)), .bl (decide (i = 11)), .bl (decide (i = 12)), .bl (decide (i = 13))]) = G2 at sp2 c2 ⊢
    have hp2 := hh2.same sp2
    have t2 := (t1.trans s2).trans sp2
    refine ⟨_, rfl, _, rfl, a, C i, _, _, _, rfl, hp2, T.er i hi, .own _, T.kit i 14 hi (by decide), _, rfl, a, C i, _, _, _, rfl, hp2, T.er i hi, .own _, T.kit i 15 hi (by decide), by show 2 ≤ sizeLine; decide, fun g3 hg3 => ?_⟩
    have s3 : Same G2 (upd G2 g3 (.lst [.bl (decide (i = 14)), .bl (decide (i = 15))])) := same_new hg3
    have f3 : upd G2 g3 (.lst [.bl (decide (i = 14)), .bl (decide (i = 15))]) g3 = some (.lst [.bl (decide (i = 14)), .bl (decide (i = 15))]) := upd_same
    generalize upd G2 g3 (.lst [.bl (decide (i = 14)), .bl (decide (i = 15))]) = H3 at s3 f3 ⊢
    have hh3 := hp2.same s3
    refine ⟨p2, g3, _, _, rfl, rfl, s3 _ _ c2, f3, by show 8 + 2 ≤ sizeLine; decide, fun p3 hp3 => ?_⟩
    have sp3 : Same H3 (upd H3 p3 (.lst [.bl (decide (i = 6)), .bl (decide (i = 7)), .bl (decide (i = 8)), .bl (decide (i = 9)), .bl (decide (i = 10)), .bl (decide (i = 11)), .bl (decide (i = 12)), .bl (decide (i = 13)), .bl (decide (i = 14)), .bl (decide (i = 15))])) := same_new hp3
    have c3 : upd H3 p3 (.lst [.bl (decide (i = 6)), .bl (decide (i = 7)), .bl (decide (i = 8)), .bl (decide (i = 9)), .bl (decide (i = 10)), .bl (decide (i = 11)), .bl (decide (i = 12)), .bl (decide (i = 13)), .bl (decide (i = 14)), .bl (decide (i = 15))]) p3 = some (.lst [.bl (decide (i = 6)), .bl (decide (i = 7)), .bl (decide (i = 8)), .bl (decide (i = 9)), .bl (decide (i = 10)), .bl (decide (i = 11)), .bl (decide (i = 12)), .bl (decide (i = 13)), .bl (decide (i = 14)), .bl (decide (i = 15))]) := upd_same
    show tSeq _ _ _ _ (upd H3 p3 (.lst [.bl (decide (i = 6)), .bl (decide (i = 7)), .bl (decide (i = 8)), .bl (decide (i = 9)), .bl (decide (i = 10)), .bl (decide (i = 11)), .bl (decide (i = 12)), .bl (decide (i = 13)), .bl (decide (i = 14)), .bl (decide (i = 15))]))
    generalize upd H3 p3 (.lst [.bl (decide (i = 6)), .bl (decide (i = 7)), .bl (decide (i = 8)), .bl (decide (i = 9)), .bl (decide (i = 10)), .bl (decide (i = 11)), .bl (decide (i = 12)), .bl (decide (i = 13)), .bl (decide (i = 14)), .bl (decide (i = 15))]) = G3 at sp3 c3 ⊢
    have hp3 := hh3.same sp3
    have t3 := (t2.trans s3).trans sp3
    refine ⟨_, rfl, _, rfl, a, C i, _, _, _, rfl, hp3, T.er i hi, .own _, T.kit i 16 hi (by decide), _, rfl, a, C i, _, _, _, rfl, hp3, T.er i hi, .own _, T.kit i 17 hi (by decide), by show 2 ≤ sizeLine; decide, fun g4 hg4 => ?_⟩
    have s4 : Same G3 (upd G3 g4 (.lst [.bl (decide (i = 16)), .bl (decide (i = 17))])) := same_new hg4
    have f4 : upd G3 g4 (.lst [.bl (decide (i = 16)), .bl (decide (i = 17))]) g4 = some (.lst [.bl (decide (i = 16)), .bl (decide (i = 17))]) := upd_same
    generalize upd G3 g4 (.lst [.bl (decide (i = 16)), .bl (decide (i = 17))]) = H4 at s4 f4 ⊢
    have hh4 := hp3.same s4
    refine ⟨p3, g4, _, _, rfl, rfl, s4 _ _ c3, f4, by show 10 + 2 ≤ sizeLine; decide, fun p4 hp4 => ?_⟩
    have sp4 : Same H4 (upd H4 p4 (.lst [.bl (decide (i = 6)), .bl (decide (i = 7)), .bl (decide (i = 8)), .bl (decide (i = 9)), .bl (decide (i = 10)), .bl (decide (i = 11)), .bl (decide (i = 12)), .bl (decide (i = 13)), .bl (decide (i = 14)), .bl (decide (i = 15)), .bl (decide (i = 16)), .bl (decide (i = 17))])) := same_new hp4
    have c4 : upd H4 p4 (.lst [.bl (decide (i = 6)), .bl (decide (i = 7)), .bl (decide (i = 8)), .bl (decide (i = 9)), .bl (decide (i = 10)), .bl (decide (i = 11)), .bl (decide (i = 12)), .bl (decide (i = 13)), .bl (decide (i = 14)), .bl (decide (i = 15)), .bl (decide (i = 16)), .bl (decide (i = 17))]) p4 = some (.lst [.bl (decide (i = 6)), .bl (decide (i = 7)), .bl (decide (i = 8)), .bl (decide (i = 9)), .bl (decide (i = 10)), .bl (decide (i = 11)), .bl (decide (i = 12)), .bl (decide (i = 13)), .bl (decide (i = 14)), .bl (decide (i = 15)), .bl (decide (i = 16)), .bl (decide (i = 17))]) := upd_same
    simp only [List.cons_append, List.nil_append]
    generalize upd H4 p4 (.lst [.bl (decide (i = 6)), .bl (decide (i = 7)), .bl (decide (i = 8)), .bl (decide (i = 9)), .bl (decide (i = 10)), .bl (decide (i = 11)), .bl (decide (i = 12)), .bl (decide (i = 13)), .bl (decide (i = 14)), .bl (decide (i = 15)), .bl (decide (i = 16)), .bl (decide (i = 17))]) = G4 at sp4 c4 ⊢
    have hp4 := hh4.same sp4
    have t4 := (t3.trans s4).trans sp4
    have tz := t4
    have cz := c4
    have cz : G4 p4 = some (.lst (kindL 6 12 i)) := cz
    refine ⟨12, rfl, by decide, by decide, fun D hD => ?_⟩
    refine lc_range (lo := 0) (n := 12) (fun m Hx => At G4 Hx D ((hits 6 m i).map V.int)) (At.nil hD) ?_ ?_
    · rintro m Hx hm aa
      rw [show (0 : Int) + (m : Int) = (m : Int) by omega]
      refine ⟨rfl, _, rfl, _, rfl, p4, _, _, _, rfl, rfl, SqL.of (aa.1 _ _ cz), atI_nat (kindL_at hm), _, rfl, ?_⟩
      rw [hits_step]
      by_cases q : i = 6 + m
      · rw [if_pos q]
        refine ite2 (fun _ => ?_) (fun q2 => absurd (decide_eq_true q) q2)
        refine ⟨_, rfl, _, aa.2, ?_, ?_⟩
        · rw [List.length_map]
          have := hits_len 6 m i
          exact small1000 (by omega)
        · rw [List.map_append]
          exact aa.push hD _
      · rw [if_neg q, List.append_nil]
        exact ite2 (fun q2 => absurd (of_decide_eq_true q2) q) (fun _ => aa)
    · intro Hx aa
      exact k D Hx (tz.trans aa.1) aa.2
end
end LW

namespace KX
open PySem L2
/-- a class of errors with a field, or without one, can be made -/
structure Mk1 (P : Program) (w : World) (K : PySem.W.Frag) (mg : Str → Option Value) (base : Heap) (C : Addr) (f : Str) : Prop where
  oe : OexC K C
  ex : ∃ J fd, PySem.W.findIn K (.ref C) "__init__" = some (some (.ref J)) ∧ PySem.W.typeIn K (.ref J) = some (.type "function") ∧ FnOk P w K mg base CX0 1 J fd ["self", f] (spInit1 C f) ∧ Binds K fd ["self", f] []
  xf : XfC K C
  no : PySem.W.findIn K (.ref C) f = some none
structure Mk0 (P : Program) (w : World) (K : PySem.W.Frag) (mg : Str → Option Value) (base : Heap) (C : Addr) : Prop where
  oe : OexC K C
  ex : ∃ J fd, PySem.W.findIn K (.ref C) "__init__" = some (some (.ref J)) ∧ PySem.W.typeIn K (.ref J) = some (.type "function") ∧ FnOk P w K mg base CX0 1 J fd ["self"] (spInit0 C) ∧ Binds K fd ["self"] []
theorem pe_mk1 {X : Cx} {C : Addr} {f x : Str} {e : Expr} {ta : TA} {p pos : Pos} (M : Mk1 X.prog X.w X.K X.mg X.base C f) (hr : Room 2 X.A) (hg : Gl X x) (hm : X.mg x = some (.ref C)) (ha : PA X [e] ta)
    (hdb : (x == ("__debug__" : Str)) = false := by decide) (he : starEach [e] X.env = (false, eval e X.env) :: starEach [] X.env := by rfl) (hpl : (backTo pos (starEach [] X.env)).any (·.1) = false := by rfl) :
    PE X (.Call (.Name x p) [e] [] pos) (tMkV C (spInit1 C f) ta) := by
  obtain ⟨J, fd, iC, tI, F, b⟩ := M.ex
  exact pe_oex M.oe iC tI F hr b hg hm ha hdb he hpl
theorem pe_mk0 {X : Cx} {C : Addr} {x : Str} {p pos : Pos} (M : Mk0 X.prog X.w X.K X.mg X.base C) (hr : Room 2 X.A) (hg : Gl X x) (hm : X.mg x = some (.ref C)) (hdb : (x == ("__debug__" : Str)) = false := by decide) :
    PE X (.Call (.Name x p) [] [] pos) (tMkV C (spInit0 C) tNil) := by
  obtain ⟨J, fd, iC, tI, F, b⟩ := M.ex
  exact pe_oex0 M.oe iC tI F hr b hg hm hdb
/-- errors in a row, of the classes from n on -/
inductive HeldL (H : Hp) (C : Nat → Addr) : Nat → List V → Prop
  | nil {n : Nat} : HeldL H C n []
  | cons {n : Nat} {a : Addr} {vs : List V} : Held H a (C n) → HeldL H C (n + 1) vs → HeldL H C n (.ref a :: vs)
theorem HeldL.get {H : Hp} {C : Nat → Addr} : ∀ {n : Nat} {vs : List V} {j : Nat} {v : V}, HeldL H C n vs → vs[j]? = some v → ∃ a, v = .ref a ∧ Held H a (C (n + j))
  | _, _, 0, _, .cons h _, e => ⟨_, (Option.some.inj e).symm, h⟩
  | n, _, j + 1, _, .cons _ t, e => by
    obtain ⟨a, h1, h2⟩ := HeldL.get (j := j) t e
    exact ⟨a, h1, by rw [show n + (j + 1) = n + 1 + j by omega]; exact h2⟩
  | _, _, 0, _, .nil, e => nomatch e
  | _, _, _ + 1, _, .nil, e => nomatch e
theorem HeldL.same {H H' : Hp} {C : Nat → Addr} (s : Same H H') : ∀ {n : Nat} {vs : List V}, HeldL H C n vs → HeldL H' C n vs
  | _, _, .nil => .nil
  | _, _, .cons h t => .cons (h.same s) (HeldL.same s t)
theorem HeldL.mem {H : Hp} {C : Nat → Addr} {n : Nat} {vs : List V} {v : V} (h : HeldL H C n vs) (hv : v ∈ vs) : ∃ a j, v = .ref a ∧ j < vs.length ∧ Held H a (C (n + j)) := by
  obtain ⟨j, hj, e⟩ := List.mem_iff_getElem.mp hv
  obtain ⟨a, h1, h2⟩ := h.get (j := j) (by rw [List.getElem?_eq_getElem hj, e])
  exact ⟨a, j, h1, hj, h2⟩
theorem mkF {C : Addr} {f : Str} {v : V} {H : Hp} {a dx : Addr} (ha : H a = none) (h1 : upd H a (exo a C none) dx = none) (h2 : dx ≠ a) :
    Same H (upd (upd (upd H a (exo a C none)) dx (exd dx [(f, v)])) a (exo a C (some dx))) ∧ HeldF (upd (upd (upd H a (exo a C none)) dx (exd dx [(f, v)])) a (exo a C (some dx))) a C f v := by
  refine ⟨fun b o e => ?_, dx, upd_same, ?_⟩
  · have hb : b ≠ a := ne_of_none e ha
    rw [upd_ne h2] at h1
    have hd : b ≠ dx := ne_of_none e h1
    rw [upd_ne hb, upd_ne hd, upd_ne hb]; exact e
  · rw [upd_ne h2]; exact upd_same
def spMade (C : Nat → Addr) : Sp := fun vs H Q _ => ∃ (pl : Addr) (v0 v1 v2 v3 v4 v5 v6 v7 v8 v9 v10 v11 : V), vs = [.ref pl] ∧ H pl = some (.lst [v0, v1, v2, v3, v4, v5, v6, v7, v8, v9, v10, v11]) ∧
  ∀ (p po pf : Addr) (os : List V) (H' : Hp), Same H H' → H' p = some (.lst [.ref po, .ref pf]) → H' po = some (.lst os) → os.length = 12 → HeldL H' C 6 os → H' pf = some (.lst [v0, v1, v2, v3, v4, v5, v6, v7, v8, v9, v10, v11]) → Q (.ref p) H'
end KX
namespace LW
open PySem L2 KX
section
variable {P : Program} {w : World} {K : PySem.W.Frag} {mg : Str → Option Value} {base : Heap} {C : Nat → Addr} {R : Addr}
abbrev sInit0 : Stmt := inClass (top 2) 0
theorem scInit0 : FnScope ["self"] ["self"] (defScope sInit0) := ⟨rfl, rfl, rfl, by decide +kernel, rfl, by decide +kernel, by decide +kernel⟩
theorem ok_init0 {f : Addr} {fd : FuncData} {c : Addr} (F : Fun K "__init__" "BadBatch.__init__" sInit0 f fd) : FnOk P w K mg base CX0 1 f fd ["self"] (spInit0 c) := by
  refine F.ok scInit0 (fun vs H Q E h => ?_) (fun cdv A outer s H vs Q E hr h => ?_)
  · obtain ⟨a, rfl, _⟩ := h
    rfl
  · obtain ⟨a, rfl, k⟩ := h
    exact ⟨_, pss_one ps_pass, k⟩
abbrev sInit1 : Stmt := inClass (top 3) 0
theorem scInit1 : FnScope ["self"] ["self"] (defScope sInit1) := ⟨rfl, rfl, rfl, by decide +kernel, rfl, by decide +kernel, by decide +kernel⟩
theorem ok_init1 {f : Addr} {fd : FuncData} {c : Addr} (F : Fun K "__init__" "BadLosses.__init__" sInit1 f fd) : FnOk P w K mg base CX0 1 f fd ["self"] (spInit0 c) := by
  refine F.ok scInit1 (fun vs H Q E h => ?_) (fun cdv A outer s H vs Q E hr h => ?_)
  · obtain ⟨a, rfl, _⟩ := h
    rfl
  · obtain ⟨a, rfl, k⟩ := h
    exact ⟨_, pss_one ps_pass, k⟩
abbrev sInit2 : Stmt := inClass (top 4) 0
theorem scInit2 : FnScope ["self"] ["self"] (defScope sInit2) := ⟨rfl, rfl, rfl, by decide +kernel, rfl, by decide +kernel, by decide +kernel⟩
theorem ok_init2 {f : Addr} {fd : FuncData} {c : Addr} (F : Fun K "__init__" "BadMarks.__init__" sInit2 f fd) : FnOk P w K mg base CX0 1 f fd ["self"] (spInit0 c) := by
  refine F.ok scInit2 (fun vs H Q E h => ?_) (fun cdv A outer s H vs Q E hr h => ?_)
  · obtain ⟨a, rfl, _⟩ := h
    rfl
  · obtain ⟨a, rfl, k⟩ := h
    exact ⟨_, pss_one ps_pass, k⟩
abbrev sInit3 : Stmt := inClass (top 7) 0
theorem scInit3 : FnScope ["self"] ["self"] (defScope sInit3) := ⟨rfl, rfl, rfl, by decide +kernel, rfl, by decide +kernel, by decide +kernel⟩
theorem ok_init3 {f : Addr} {fd : FuncData} {c : Addr} (F : Fun K "__init__" "Busy.__init__" sInit3 f fd) : FnOk P w K mg base CX0 1 f fd ["self"] (spInit0 c) := by
  refine F.ok scInit3 (fun vs H Q E h => ?_) (fun cdv A outer s H vs Q E hr h => ?_)
  · obtain ⟨a, rfl, _⟩ := h
    rfl
  · obtain ⟨a, rfl, k⟩ := h
    exact ⟨_, pss_one ps_pass, k⟩
abbrev sInit4 : Stmt := inClass (top 14) 0
theorem scInit4 : FnScope ["self"] ["self"] (defScope sInit4) := ⟨rfl, rfl, rfl, by decide +kernel, rfl, by decide +kernel, by decide +kernel⟩
theorem ok_init4 {f : Addr} {fd : FuncData} {c : Addr} (F : Fun K "__init__" "NothingToUndo.__init__" sInit4 f fd) : FnOk P w K mg base CX0 1 f fd ["self"] (spInit0 c) := by
  refine F.ok scInit4 (fun vs H Q E h => ?_) (fun cdv A outer s H vs Q E hr h => ?_)
  · obtain ⟨a, rfl, _⟩ := h
    rfl
  · obtain ⟨a, rfl, k⟩ := h
    exact ⟨_, pss_one ps_pass, k⟩
abbrev sInit5 : Stmt := inClass (top 18) 0
theorem scInit5 : FnScope ["self"] ["self"] (defScope sInit5) := ⟨rfl, rfl, rfl, by decide +kernel, rfl, by decide +kernel, by decide +kernel⟩
theorem ok_init5 {f : Addr} {fd : FuncData} {c : Addr} (F : Fun K "__init__" "TooManyActions.__init__" sInit5 f fd) : FnOk P w K mg base CX0 1 f fd ["self"] (spInit0 c) := by
  refine F.ok scInit5 (fun vs H Q E h => ?_) (fun cdv A outer s H vs Q E hr h => ?_)
  · obtain ⟨a, rfl, _⟩ := h
    rfl
  · obtain ⟨a, rfl, k⟩ := h
    exact ⟨_, pss_one ps_pass, k⟩
abbrev sInit6 : Stmt := inClass (top 5) 0
theorem scInit6 : FnScope ["self", "error"] ["self", "error"] (defScope sInit6) := ⟨rfl, rfl, rfl, by decide +kernel, rfl, by decide +kernel, by decide +kernel⟩
theorem ok_init6 {f : Addr} {fd : FuncData} {c : Addr} (F : Fun K "__init__" "BadRow.__init__" sInit6 f fd) (T : OexC K c) (hno : PySem.W.findIn K (.ref c) "error" = some none) : FnOk P w K mg base CX0 1 f fd ["self", "error"] (spInit1 c "error") := by
  refine F.ok scInit6 (fun vs H Q E h => ?_) (fun cdv A outer s H vs Q E hr h => ?_)
  · obtain ⟨a, v, rfl, _⟩ := h
    rfl
  · obtain ⟨a, v, rfl, ha, k⟩ := h
    refine ⟨_, pss_one (ps_ost (pv 0) (pv 1)), ?_⟩
    exact ⟨_, rfl, _, rfl, a, c, rfl, T, hno, .inl ⟨ha, fun dx h1 h2 => k dx h1 h2⟩⟩
abbrev sInit7 : Stmt := inClass (top 6) 0
theorem scInit7 : FnScope ["self", "index"] ["self", "index"] (defScope sInit7) := ⟨rfl, rfl, rfl, by decide +kernel, rfl, by decide +kernel, by decide +kernel⟩
theorem ok_init7 {f : Addr} {fd : FuncData} {c : Addr} (F : Fun K "__init__" "BadText.__init__" sInit7 f fd) (T : OexC K c) (hno : PySem.W.findIn K (.ref c) "index" = some none) : FnOk P w K mg base CX0 1 f fd ["self", "index"] (spInit1 c "index") := by
  refine F.ok scInit7 (fun vs H Q E h => ?_) (fun cdv A outer s H vs Q E hr h => ?_)
  · obtain ⟨a, v, rfl, _⟩ := h
    rfl
  · obtain ⟨a, v, rfl, ha, k⟩ := h
    refine ⟨_, pss_one (ps_ost (pv 0) (pv 1)), ?_⟩
    exact ⟨_, rfl, _, rfl, a, c, rfl, T, hno, .inl ⟨ha, fun dx h1 h2 => k dx h1 h2⟩⟩
abbrev sInit8 : Stmt := inClass (top 8) 0
theorem scInit8 : FnScope ["self", "index"] ["self", "index"] (defScope sInit8) := ⟨rfl, rfl, rfl, by decide +kernel, rfl, by decide +kernel, by decide +kernel⟩
theorem ok_init8 {f : Addr} {fd : FuncData} {c : Addr} (F : Fun K "__init__" "NoIndex.__init__" sInit8 f fd) (T : OexC K c) (hno : PySem.W.findIn K (.ref c) "index" = some none) : FnOk P w K mg base CX0 1 f fd ["self", "index"] (spInit1 c "index") := by
  refine F.ok scInit8 (fun vs H Q E h => ?_) (fun cdv A outer s H vs Q E hr h => ?_)
  · obtain ⟨a, v, rfl, _⟩ := h
    rfl
  · obtain ⟨a, v, rfl, ha, k⟩ := h
    refine ⟨_, pss_one (ps_ost (pv 0) (pv 1)), ?_⟩
    exact ⟨_, rfl, _, rfl, a, c, rfl, T, hno, .inl ⟨ha, fun dx h1 h2 => k dx h1 h2⟩⟩
abbrev sInit9 : Stmt := inClass (top 9) 0
theorem scInit9 : FnScope ["self", "value"] ["self", "value"] (defScope sInit9) := ⟨rfl, rfl, rfl, by decide +kernel, rfl, by decide +kernel, by decide +kernel⟩
theorem ok_init9 {f : Addr} {fd : FuncData} {c : Addr} (F : Fun K "__init__" "NoKey.__init__" sInit9 f fd) (T : OexC K c) (hno : PySem.W.findIn K (.ref c) "value" = some none) : FnOk P w K mg base CX0 1 f fd ["self", "value"] (spInit1 c "value") := by
  refine F.ok scInit9 (fun vs H Q E h => ?_) (fun cdv A outer s H vs Q E hr h => ?_)
  · obtain ⟨a, v, rfl, _⟩ := h
    rfl
  · obtain ⟨a, v, rfl, ha, k⟩ := h
    refine ⟨_, pss_one (ps_ost (pv 0) (pv 1)), ?_⟩
    exact ⟨_, rfl, _, rfl, a, c, rfl, T, hno, .inl ⟨ha, fun dx h1 h2 => k dx h1 h2⟩⟩
abbrev sInit10 : Stmt := inClass (top 10) 0
theorem scInit10 : FnScope ["self", "value"] ["self", "value"] (defScope sInit10) := ⟨rfl, rfl, rfl, by decide +kernel, rfl, by decide +kernel, by decide +kernel⟩
theorem ok_init10 {f : Addr} {fd : FuncData} {c : Addr} (F : Fun K "__init__" "NoPlace.__init__" sInit10 f fd) (T : OexC K c) (hno : PySem.W.findIn K (.ref c) "value" = some none) : FnOk P w K mg base CX0 1 f fd ["self", "value"] (spInit1 c "value") := by
  refine F.ok scInit10 (fun vs H Q E h => ?_) (fun cdv A outer s H vs Q E hr h => ?_)
  · obtain ⟨a, v, rfl, _⟩ := h
    rfl
  · obtain ⟨a, v, rfl, ha, k⟩ := h
    refine ⟨_, pss_one (ps_ost (pv 0) (pv 1)), ?_⟩
    exact ⟨_, rfl, _, rfl, a, c, rfl, T, hno, .inl ⟨ha, fun dx h1 h2 => k dx h1 h2⟩⟩
abbrev sInit11 : Stmt := inClass (top 11) 0
theorem scInit11 : FnScope ["self", "value"] ["self", "value"] (defScope sInit11) := ⟨rfl, rfl, rfl, by decide +kernel, rfl, by decide +kernel, by decide +kernel⟩
theorem ok_init11 {f : Addr} {fd : FuncData} {c : Addr} (F : Fun K "__init__" "NoRounds.__init__" sInit11 f fd) (T : OexC K c) (hno : PySem.W.findIn K (.ref c) "value" = some none) : FnOk P w K mg base CX0 1 f fd ["self", "value"] (spInit1 c "value") := by
  refine F.ok scInit11 (fun vs H Q E h => ?_) (fun cdv A outer s H vs Q E hr h => ?_)
  · obtain ⟨a, v, rfl, _⟩ := h
    rfl
  · obtain ⟨a, v, rfl, ha, k⟩ := h
    refine ⟨_, pss_one (ps_ost (pv 0) (pv 1)), ?_⟩
    exact ⟨_, rfl, _, rfl, a, c, rfl, T, hno, .inl ⟨ha, fun dx h1 h2 => k dx h1 h2⟩⟩
abbrev sInit12 : Stmt := inClass (top 12) 0
theorem scInit12 : FnScope ["self", "value"] ["self", "value"] (defScope sInit12) := ⟨rfl, rfl, rfl, by decide +kernel, rfl, by decide +kernel, by decide +kernel⟩
theorem ok_init12 {f : Addr} {fd : FuncData} {c : Addr} (F : Fun K "__init__" "NoThreshold.__init__" sInit12 f fd) (T : OexC K c) (hno : PySem.W.findIn K (.ref c) "value" = some none) : FnOk P w K mg base CX0 1 f fd ["self", "value"] (spInit1 c "value") := by
  refine F.ok scInit12 (fun vs H Q E h => ?_) (fun cdv A outer s H vs Q E hr h => ?_)
  · obtain ⟨a, v, rfl, _⟩ := h
    rfl
  · obtain ⟨a, v, rfl, ha, k⟩ := h
    refine ⟨_, pss_one (ps_ost (pv 0) (pv 1)), ?_⟩
    exact ⟨_, rfl, _, rfl, a, c, rfl, T, hno, .inl ⟨ha, fun dx h1 h2 => k dx h1 h2⟩⟩
abbrev sInit13 : Stmt := inClass (top 13) 0
theorem scInit13 : FnScope ["self", "version"] ["self", "version"] (defScope sInit13) := ⟨rfl, rfl, rfl, by decide +kernel, rfl, by decide +kernel, by decide +kernel⟩
theorem ok_init13 {f : Addr} {fd : FuncData} {c : Addr} (F : Fun K "__init__" "NoVersion.__init__" sInit13 f fd) (T : OexC K c) (hno : PySem.W.findIn K (.ref c) "version" = some none) : FnOk P w K mg base CX0 1 f fd ["self", "version"] (spInit1 c "version") := by
  refine F.ok scInit13 (fun vs H Q E h => ?_) (fun cdv A outer s H vs Q E hr h => ?_)
  · obtain ⟨a, v, rfl, _⟩ := h
    rfl
  · obtain ⟨a, v, rfl, ha, k⟩ := h
    refine ⟨_, pss_one (ps_ost (pv 0) (pv 1)), ?_⟩
    exact ⟨_, rfl, _, rfl, a, c, rfl, T, hno, .inl ⟨ha, fun dx h1 h2 => k dx h1 h2⟩⟩
abbrev sInit14 : Stmt := inClass (top 15) 0
theorem scInit14 : FnScope ["self", "index"] ["self", "index"] (defScope sInit14) := ⟨rfl, rfl, rfl, by decide +kernel, rfl, by decide +kernel, by decide +kernel⟩
theorem ok_init14 {f : Addr} {fd : FuncData} {c : Addr} (F : Fun K "__init__" "Rejected.__init__" sInit14 f fd) (T : OexC K c) (hno : PySem.W.findIn K (.ref c) "index" = some none) : FnOk P w K mg base CX0 1 f fd ["self", "index"] (spInit1 c "index") := by
  refine F.ok scInit14 (fun vs H Q E h => ?_) (fun cdv A outer s H vs Q E hr h => ?_)
  · obtain ⟨a, v, rfl, _⟩ := h
    rfl
  · obtain ⟨a, v, rfl, ha, k⟩ := h
    refine ⟨_, pss_one (ps_ost (pv 0) (pv 1)), ?_⟩
    exact ⟨_, rfl, _, rfl, a, c, rfl, T, hno, .inl ⟨ha, fun dx h1 h2 => k dx h1 h2⟩⟩
abbrev sInit15 : Stmt := inClass (top 16) 0
theorem scInit15 : FnScope ["self", "limit"] ["self", "limit"] (defScope sInit15) := ⟨rfl, rfl, rfl, by decide +kernel, rfl, by decide +kernel, by decide +kernel⟩
theorem ok_init15 {f : Addr} {fd : FuncData} {c : Addr} (F : Fun K "__init__" "TooLong.__init__" sInit15 f fd) (T : OexC K c) (hno : PySem.W.findIn K (.ref c) "limit" = some none) : FnOk P w K mg base CX0 1 f fd ["self", "limit"] (spInit1 c "limit") := by
  refine F.ok scInit15 (fun vs H Q E h => ?_) (fun cdv A outer s H vs Q E hr h => ?_)
  · obtain ⟨a, v, rfl, _⟩ := h
    rfl
  · obtain ⟨a, v, rfl, ha, k⟩ := h
    refine ⟨_, pss_one (ps_ost (pv 0) (pv 1)), ?_⟩
    exact ⟨_, rfl, _, rfl, a, c, rfl, T, hno, .inl ⟨ha, fun dx h1 h2 => k dx h1 h2⟩⟩
abbrev sInit16 : Stmt := inClass (top 17) 0
theorem scInit16 : FnScope ["self", "limit"] ["self", "limit"] (defScope sInit16) := ⟨rfl, rfl, rfl, by decide +kernel, rfl, by decide +kernel, by decide +kernel⟩
theorem ok_init16 {f : Addr} {fd : FuncData} {c : Addr} (F : Fun K "__init__" "TooMany.__init__" sInit16 f fd) (T : OexC K c) (hno : PySem.W.findIn K (.ref c) "limit" = some none) : FnOk P w K mg base CX0 1 f fd ["self", "limit"] (spInit1 c "limit") := by
  refine F.ok scInit16 (fun vs H Q E h => ?_) (fun cdv A outer s H vs Q E hr h => ?_)
  · obtain ⟨a, v, rfl, _⟩ := h
    rfl
  · obtain ⟨a, v, rfl, ha, k⟩ := h
    refine ⟨_, pss_one (ps_ost (pv 0) (pv 1)), ?_⟩
    exact ⟨_, rfl, _, rfl, a, c, rfl, T, hno, .inl ⟨ha, fun dx h1 h2 => k dx h1 h2⟩⟩
abbrev sInit17 : Stmt := inClass (top 19) 0
theorem scInit17 : FnScope ["self", "needed"] ["self", "needed"] (defScope sInit17) := ⟨rfl, rfl, rfl, by decide +kernel, rfl, by decide +kernel, by decide +kernel⟩
theorem ok_init17 {f : Addr} {fd : FuncData} {c : Addr} (F : Fun K "__init__" "TooSlow.__init__" sInit17 f fd) (T : OexC K c) (hno : PySem.W.findIn K (.ref c) "needed" = some none) : FnOk P w K mg base CX0 1 f fd ["self", "needed"] (spInit1 c "needed") := by
  refine F.ok scInit17 (fun vs H Q E h => ?_) (fun cdv A outer s H vs Q E hr h => ?_)
  · obtain ⟨a, v, rfl, _⟩ := h
    rfl
  · obtain ⟨a, v, rfl, ha, k⟩ := h
    refine ⟨_, pss_one (ps_ost (pv 0) (pv 1)), ?_⟩
    exact ⟨_, rfl, _, rfl, a, c, rfl, T, hno, .inl ⟨ha, fun dx h1 h2 => k dx h1 h2⟩⟩
abbrev nMade : List Str := ["_law_values", "_law_row", "_law_text", "_law_index", "_law_key", "_law_place", "_law_rounds", "_law_threshold", "_law_version", "_law_batch", "_law_long", "_law_many", "_law_slow", "_law_fields"]
abbrev sMade : Stmt := top 40
theorem scMade : FnScope nMade ["_law_values"] (defScope sMade) := ⟨rfl, rfl, rfl, by decide +kernel, rfl, by decide +kernel, by decide +kernel⟩
theorem ok_made {f : Addr} {fd : FuncData} (F : Fun K "_law_made" "_law_made" sMade f fd) (T : Txt K mg C R)
    (M6 : Mk1 P w K mg base (C 6) "error")
    (M7 : Mk1 P w K mg base (C 7) "index")
    (M8 : Mk1 P w K mg base (C 8) "index")
    (M9 : Mk1 P w K mg base (C 9) "value")
    (M10 : Mk1 P w K mg base (C 10) "value")
    (M11 : Mk1 P w K mg base (C 11) "value")
    (M12 : Mk1 P w K mg base (C 12) "value")
    (M13 : Mk1 P w K mg base (C 13) "version")
    (M14 : Mk1 P w K mg base (C 14) "index")
    (M15 : Mk1 P w K mg base (C 15) "limit")
    (M16 : Mk1 P w K mg base (C 16) "limit")
    (M17 : Mk1 P w K mg base (C 17) "needed")
    : FnOk P w K mg base CX0 3 f fd ["_law_values"] (spMade C) := by
  refine F.ok scMade (fun vs H Q E h => ?_) (fun cdv A outer s H vs Q E hr h => ?_)
  · obtain ⟨pl, v0, v1, v2, v3, v4, v5, v6, v7, v8, v9, v10, v11, rfl, _⟩ := h
    rfl
  · obtain ⟨pl, v0, v1, v2, v3, v4, v5, v6, v7, v8, v9, v10, v11, rfl, hv, k⟩ := h
    refine ⟨_, pss_cons (ps_par3 (i := 1) (j := 2) (l := 3) rfl scMade.nd rfl rfl rfl (by decide) (by decide) (by decide) rfl rfl rfl (pa_cons (pe_mk1 M6 hr (by rfl) T.m6 (pa_cons (pe_ix ix_list (pv 0) pe_int (fun _ _ => rfl)) pa_nil)) (pa_cons (pe_mk1 M7 hr (by rfl) T.m7 (pa_cons (pe_ix ix_list (pv 0) pe_int (fun _ _ => rfl)) pa_nil)) (pa_cons (pe_mk1 M8 hr (by rfl) T.m8 (pa_cons (pe_ix ix_list (pv 0) pe_int (fun _ _ => rfl)) pa_nil)) pa_nil))) (by rfl)) (
      pss_cons (ps_par3 (i := 4) (j := 5) (l := 6) rfl scMade.nd rfl rfl rfl (by decide) (by decide) (by decide) rfl rfl rfl (pa_cons (pe_mk1 M9 hr (by rfl) T.m9 (pa_cons (pe_ix ix_list (pv 0) pe_int (fun _ _ => rfl)) pa_nil)) (pa_cons (pe_mk1 M10 hr (by rfl) T.m10 (pa_cons (pe_ix ix_list (pv 0) pe_int (fun _ _ => rfl)) pa_nil)) (pa_cons (pe_mk1 M11 hr (by rfl) T.m11 (pa_cons (pe_ix ix_list (pv 0) pe_int (fun _ _ => rfl)) pa_nil)) pa_nil))) (by rfl)) (
      pss_cons (ps_par (i := 7) (j := 8) rfl scMade.nd rfl rfl (by decide) rfl rfl (pa_cons (pe_mk1 M12 hr (by rfl) T.m12 (pa_cons (pe_ix ix_list (pv 0) pe_int (fun _ _ => rfl)) pa_nil)) (pa_cons (pe_mk1 M13 hr (by rfl) T.m13 (pa_cons (pe_ix ix_list (pv 0) pe_int (fun _ _ => rfl)) pa_nil)) pa_nil)) (by rfl)) (
      pss_cons (ps_par3 (i := 9) (j := 10) (l := 11) rfl scMade.nd rfl rfl rfl (by decide) (by decide) (by decide) rfl rfl rfl (pa_cons (pe_mk1 M14 hr (by rfl) T.m14 (pa_cons (pe_ix ix_list (pv 0) pe_int (fun _ _ => rfl)) pa_nil)) (pa_cons (pe_mk1 M15 hr (by rfl) T.m15 (pa_cons (pe_ix ix_list (pv 0) pe_int (fun _ _ => rfl)) pa_nil)) (pa_cons (pe_mk1 M16 hr (by rfl) T.m16 (pa_cons (pe_ix ix_list (pv 0) pe_int (fun _ _ => rfl)) pa_nil)) pa_nil))) (by rfl)) (
      pss_cons (ps_set (i := 12) scMade.nd rfl (.inl rfl) (pe_mk1 M17 hr (by rfl) T.m17 (pa_cons (pe_ix ix_list (pv 0) pe_int (fun _ _ => rfl)) pa_nil))) (
      pss_cons (ps_set (i := 13) scMade.nd rfl (.inl rfl) (pe_lst (pa_cons (pe_getF (pv 1)) (pa_cons (pe_getF (pv 2)) (pa_cons (pe_getF (pv 3)) (pa_cons (pe_getF (pv 4)) (pa_cons (pe_getF (pv 5)) pa_nil))))))) (
      pss_cons (ps_set (i := 13) scMade.nd rfl (.inl rfl) (pe_op op_cat (pv 13) (pe_lst (pa_cons (pe_getF (pv 6)) (pa_cons (pe_getF (pv 7)) (pa_cons (pe_getF (pv 8)) pa_nil)))))) (
      pss_cons (ps_set (i := 13) scMade.nd rfl (.inl rfl) (pe_op op_cat (pv 13) (pe_lst (pa_cons (pe_getF (pv 9)) (pa_cons (pe_getF (pv 10)) (pa_cons (pe_getF (pv 11)) (pa_cons (pe_getF (pv 12)) pa_nil))))))) (
      pss_one (ps_ret (pe_lst (pa_cons (pe_lst (pa_cons (pv 1) (pa_cons (pv 2) (pa_cons (pv 3) (pa_cons (pv 4) (pa_cons (pv 5) (pa_cons (pv 6) (pa_cons (pv 7) (pa_cons (pv 8) (pa_cons (pv 9) (pa_cons (pv 10) (pa_cons (pv 11) (pa_cons (pv 12) pa_nil))))))))))))) (pa_cons (pv 13) pa_nil)))))))))))), ?_⟩
    refine ⟨_, rfl, pl, _, _, _, rfl, rfl, SqL.of hv, (rfl : atI [v0, v1, v2, v3, v4, v5, v6, v7, v8, v9, v10, v11] 0 = some v0), by show 1 ≤ 1000; decide, fun a6 ha6 => ⟨a6, v0, rfl, upd_same, fun d6 n6 e6 => ⟨rfl, ?_⟩⟩⟩
    obtain ⟨s6, h6⟩ := mkF (C := C 6) (f := "error") (v := v0) ha6 n6 e6
    generalize upd (upd (upd H a6 (exo a6 (C 6) none)) d6 (exd d6 [("error", v0)])) a6 (exo a6 (C 6) (some d6)) = K6 at s6 h6 ⊢
    refine ⟨_, rfl, pl, _, _, _, rfl, rfl, SqL.of ((s6) _ _ hv), (rfl : atI [v0, v1, v2, v3, v4, v5, v6, v7, v8, v9, v10, v11] 1 = some v1), by show 1 ≤ 1000; decide, fun a7 ha7 => ⟨a7, v1, rfl, upd_same, fun d7 n7 e7 => ⟨rfl, ?_⟩⟩⟩
    obtain ⟨s7, h7⟩ := mkF (C := C 7) (f := "index") (v := v1) ha7 n7 e7
    generalize upd (upd (upd K6 a7 (exo a7 (C 7) none)) d7 (exd d7 [("index", v1)])) a7 (exo a7 (C 7) (some d7)) = K7 at s7 h7 ⊢
    refine ⟨_, rfl, pl, _, _, _, rfl, rfl, SqL.of (((s6).trans s7) _ _ hv), (rfl : atI [v0, v1, v2, v3, v4, v5, v6, v7, v8, v9, v10, v11] 2 = some v2), by show 1 ≤ 1000; decide, fun a8 ha8 => ⟨a8, v2, rfl, upd_same, fun d8 n8 e8 => ⟨rfl, ?_⟩⟩⟩
    obtain ⟨s8, h8⟩ := mkF (C := C 8) (f := "index") (v := v2) ha8 n8 e8
    generalize upd (upd (upd K7 a8 (exo a8 (C 8) none)) d8 (exd d8 [("index", v2)])) a8 (exo a8 (C 8) (some d8)) = K8 at s8 h8 ⊢
    refine ⟨_, _, _, rfl, ?_⟩
    show tSeq _ _ _ [some (.ref pl), some (.ref a6), some (.ref a7), some (.ref a8), none, none, none, none, none, none, none, none, none, none] K8
    refine ⟨_, rfl, pl, _, _, _, rfl, rfl, SqL.of ((((s6).trans s7).trans s8) _ _ hv), (rfl : atI [v0, v1, v2, v3, v4, v5, v6, v7, v8, v9, v10, v11] 3 = some v3), by show 1 ≤ 1000; decide, fun a9 ha9 => ⟨a9, v3, rfl, upd_same, fun d9 n9 e9 => ⟨rfl, ?_⟩⟩⟩
    obtain ⟨s9, h9⟩ := mkF (C := C 9) (f := "value") (v := v3) ha9 n9 e9
    generalize upd (upd (upd K8 a9 (exo a9 (C 9) none)) d9 (exd d9 [("value", v3)])) a9 (exo a9 (C 9) (some d9)) = K9 at s9 h9 ⊢
    refine ⟨_, rfl, pl, _, _, _, rfl, rfl, SqL.of (((((s6).trans s7).trans s8).trans s9) _ _ hv), (rfl : atI [v0, v1, v2, v3, v4, v5, v6, v7, v8, v9, v10, v11] 4 = some v4), by show 1 ≤ 1000; decide, fun a10 ha10 => ⟨a10, v4, rfl, upd_same, fun d10 n10 e10 => ⟨rfl, ?_⟩⟩⟩
    obtain ⟨s10, h10⟩ := mkF (C := C 10) (f := "value") (v := v4) ha10 n10 e10
    generalize upd (upd (upd K9 a10 (exo a10 (C 10) none)) d10 (exd d10 [("value", v4)])) a10 (exo a10 (C 10) (some d10)) = K10 at s10 h10 ⊢
    refine ⟨_, rfl, pl, _, _, _, rfl, rfl, SqL.of ((((((s6).trans s7).trans s8).trans s9).trans s10) _ _ hv), (rfl : atI [v0, v1, v2, v3, v4, v5, v6, v7, v8, v9, v10, v11] 5 = some v5), by show 1 ≤ 1000; decide, fun a11 ha11 => ⟨a11, v5, rfl, upd_same, fun d11 n11 e11 => ⟨rfl, ?_⟩⟩⟩
    obtain ⟨s11, h11⟩ := mkF (C := C 11) (f := "value") (v := v5) ha11 n11 e11
    generalize upd (upd (upd K10 a11 (exo a11 (C 11) none)) d11 (exd d11 [("value", v5)])) a11 (exo a11 (C 11) (some d11)) = K11 at s11 h11 ⊢
    refine ⟨_, _, _, rfl, ?_⟩
    show tSeq _ _ _ [some (.ref pl), some (.ref a6), some (.ref a7), some (.ref a8), some (.ref a9), some (.ref a10), some (.ref a11), none, none, none, none, none, none, none] K11
    refine ⟨_, rfl, pl, _, _, _, rfl, rfl, SqL.of (((((((s6).trans s7).trans s8).trans s9).trans s10).trans s11) _ _ hv), (rfl : atI [v0, v1, v2, v3, v4, v5, v6, v7, v8, v9, v10, v11] 6 = some v6), by show 1 ≤ 1000; decide, fun a12 ha12 => ⟨a12, v6, rfl, upd_same, fun d12 n12 e12 => ⟨rfl, ?_⟩⟩⟩
    obtain ⟨s12, h12⟩ := mkF (C := C 12) (f := "value") (v := v6) ha12 n12 e12
    generalize upd (upd (upd K11 a12 (exo a12 (C 12) none)) d12 (exd d12 [("value", v6)])) a12 (exo a12 (C 12) (some d12)) = K12 at s12 h12 ⊢
    refine ⟨_, rfl, pl, _, _, _, rfl, rfl, SqL.of ((((((((s6).trans s7).trans s8).trans s9).trans s10).trans s11).trans s12) _ _ hv), (rfl : atI [v0, v1, v2, v3, v4, v5, v6, v7, v8, v9, v10, v11] 7 = some v7), by show 1 ≤ 1000; decide, fun a13 ha13 => ⟨a13, v7, rfl, upd_same, fun d13 n13 e13 => ⟨rfl, ?_⟩⟩⟩
    obtain ⟨s13, h13⟩ := mkF (C := C 13) (f := "version") (v := v7) ha13 n13 e13
    generalize upd (upd (upd K12 a13 (exo a13 (C 13) none)) d13 (exd d13 [("version", v7)])) a13 (exo a13 (C 13) (some d13)) = K13 at s13 h13 ⊢
    refine ⟨_, _, rfl, ?_⟩
    show tSeq _ _ _ [some (.ref pl), some (.ref a6), some (.ref a7), some (.ref a8), some (.ref a9), some (.ref a10), some (.ref a11), some (.ref a12), some (.ref a13), none, none, none, none, none] K13
    refine ⟨_, rfl, pl, _, _, _, rfl, rfl, SqL.of (((((((((s6).trans s7).trans s8).trans s9).trans s10).trans s11).trans s12).trans s13) _ _ hv), (rfl : atI [v0, v1, v2, v3, v4, v5, v6, v7, v8, v9, v10, v11] 8 = some v8), by show 1 ≤ 1000; decide, fun a14 ha14 => ⟨a14, v8, rfl, upd_same, fun d14 n14 e14 => ⟨rfl, ?_⟩⟩⟩
    obtain ⟨s14, h14⟩ := mkF (C := C 14) (f := "index") (v := v8) ha14 n14 e14
    generalize upd (upd (upd K13 a14 (exo a14 (C 14) none)) d14 (exd d14 [("index", v8)])) a14 (exo a14 (C 14) (some d14)) = K14 at s14 h14 ⊢
    refine ⟨_, rfl, pl, _, _, _, rfl, rfl, SqL.of ((((((((((s6).trans s7).trans s8).trans s9).trans s10).trans s11).trans s12).trans s13).trans s14) _ _ hv), (rfl : atI [v0, v1, v2, v3, v4, v5, v6, v7, v8, v9, v10, v11] 9 = some v9), by show 1 ≤ 1000; decide, fun a15 ha15 => ⟨a15, v9, rfl, upd_same, fun d15 n15 e15 => ⟨rfl, ?_⟩⟩⟩
    obtain ⟨s15, h15⟩ := mkF (C := C 15) (f := "limit") (v := v9) ha15 n15 e15
    generalize upd (upd (upd K14 a15 (exo a15 (C 15) none)) d15 (exd d15 [("limit", v9)])) a15 (exo a15 (C 15) (some d15)) = K15 at s15 h15 ⊢
    refine ⟨_, rfl, pl, _, _, _, rfl, rfl, SqL.of (((((((((((s6).trans s7).trans s8).trans s9).trans s10).trans s11).trans s12).trans s13).trans s14).trans s15) _ _ hv), (rfl : atI [v0, v1, v2, v3, v4, v5, v6, v7, v8, v9, v10, v11] 10 = some v10), by show 1 ≤ 1000; decide, fun a16 ha16 => ⟨a16, v10, rfl, upd_same, fun d16 n16 e16 => ⟨rfl, ?_⟩⟩⟩
    obtain ⟨s16, h16⟩ := mkF (C := C 16) (f := "limit") (v := v10) ha16 n16 e16
    generalize upd (upd (upd K15 a16 (exo a16 (C 16) none)) d16 (exd d16 [("limit", v10)])) a16 (exo a16 (C 16) (some d16)) = K16 at s16 h16 ⊢
    refine ⟨_, _, _, rfl, ?_⟩
    show tSeq _ _ _ [some (.ref pl), some (.ref a6), some (.ref a7), some (.ref a8), some (.ref a9), some (.ref a10), some (.ref a11), some (.ref a12), some (.ref a13), some (.ref a14), some (.ref a15), some (.ref a16), none, none] K16
    refine ⟨_, rfl, pl, _, _, _, rfl, rfl, SqL.of ((((((((((((s6).trans s7).trans s8).trans s9).trans s10).trans s11).trans s12).trans s13).trans s14).trans s15).trans s16) _ _ hv), (rfl : atI [v0, v1, v2, v3, v4, v5, v6, v7, v8, v9, v10, v11] 11 = some v11), by show 1 ≤ 1000; decide, fun a17 ha17 => ⟨a17, v11, rfl, upd_same, fun d17 n17 e17 => ⟨rfl, ?_⟩⟩⟩
    obtain ⟨s17, h17⟩ := mkF (C := C 17) (f := "needed") (v := v11) ha17 n17 e17
    generalize upd (upd (upd K16 a17 (exo a17 (C 17) none)) d17 (exd d17 [("needed", v11)])) a17 (exo a17 (C 17) (some d17)) = K17 at s17 h17 ⊢
    show tSeq _ _ _ [some (.ref pl), some (.ref a6), some (.ref a7), some (.ref a8), some (.ref a9), some (.ref a10), some (.ref a11), some (.ref a12), some (.ref a13), some (.ref a14), some (.ref a15), some (.ref a16), some (.ref a17), none] K17
    refine ⟨_, rfl, a6, C 6, v0, rfl, (h6.same (((((((((((s7).trans s8).trans s9).trans s10).trans s11).trans s12).trans s13).trans s14).trans s15).trans s16).trans s17)), M6.xf, M6.no, _, rfl, a7, C 7, v1, rfl, (h7.same ((((((((((s8).trans s9).trans s10).trans s11).trans s12).trans s13).trans s14).trans s15).trans s16).trans s17)), M7.xf, M7.no, _, rfl, a8, C 8, v2, rfl, (h8.same (((((((((s9).trans s10).trans s11).trans s12).trans s13).trans s14).trans s15).trans s16).trans s17)), M8.xf, M8.no, _, rfl, a9, C 9, v3, rfl, (h9.same ((((((((s10).trans s11).trans s12).trans s13).trans s14).trans s15).trans s16).trans s17)), M9.xf, M9.no, _, rfl, a10, C 10, v4, rfl, (h10.same (((((((s11).trans s12).trans s13).trans s14).trans s15).trans s16).trans s17)), M10.xf, M10.no, by show 5 ≤ sizeLine; decide, fun g0 hg0 => ?_⟩
    have sg0 : Same K17 (upd K17 g0 (.lst [v0, v1, v2, v3, v4])) := same_new hg0
    have fg0 : upd K17 g0 (.lst [v0, v1, v2, v3, v4]) g0 = some (.lst [v0, v1, v2, v3, v4]) := upd_same
    generalize upd K17 g0 (.lst [v0, v1, v2, v3, v4]) = Kg0 at sg0 fg0 ⊢
    show tSeq _ _ _ [some (.ref pl), some (.ref a6), some (.ref a7), some (.ref a8), some (.ref a9), some (.ref a10), some (.ref a11), some (.ref a12), some (.ref a13), some (.ref a14), some (.ref a15), some (.ref a16), some (.ref a17), some (.ref g0)] Kg0
    refine ⟨_, rfl, _, rfl, a11, C 11, v5, rfl, (h11.same (((((((s12).trans s13).trans s14).trans s15).trans s16).trans s17).trans sg0)), M11.xf, M11.no, _, rfl, a12, C 12, v6, rfl, (h12.same ((((((s13).trans s14).trans s15).trans s16).trans s17).trans sg0)), M12.xf, M12.no, _, rfl, a13, C 13, v7, rfl, (h13.same (((((s14).trans s15).trans s16).trans s17).trans sg0)), M13.xf, M13.no, by show 3 ≤ sizeLine; decide, fun g1 hg1 => ?_⟩
    have sg1 : Same Kg0 (upd Kg0 g1 (.lst [v5, v6, v7])) := same_new hg1
    have fg1 : upd Kg0 g1 (.lst [v5, v6, v7]) g1 = some (.lst [v5, v6, v7]) := upd_same
    generalize upd Kg0 g1 (.lst [v5, v6, v7]) = Kg1 at sg1 fg1 ⊢
    refine ⟨g0, g1, _, _, rfl, rfl, (sg1) _ _ fg0, fg1, by show 5 + 3 ≤ sizeLine; decide, fun q1 hq1 => ?_⟩
    simp only [List.cons_append, List.nil_append]
    have sq1 : Same Kg1 (upd Kg1 q1 (.lst [v0, v1, v2, v3, v4, v5, v6, v7])) := same_new hq1
    have fq1 : upd Kg1 q1 (.lst [v0, v1, v2, v3, v4, v5, v6, v7]) q1 = some (.lst [v0, v1, v2, v3, v4, v5, v6, v7]) := upd_same
    generalize upd Kg1 q1 (.lst [v0, v1, v2, v3, v4, v5, v6, v7]) = Kq1 at sq1 fq1 ⊢
    show tSeq _ _ _ [some (.ref pl), some (.ref a6), some (.ref a7), some (.ref a8), some (.ref a9), some (.ref a10), some (.ref a11), some (.ref a12), some (.ref a13), some (.ref a14), some (.ref a15), some (.ref a16), some (.ref a17), some (.ref q1)] Kq1
    refine ⟨_, rfl, _, rfl, a14, C 14, v8, rfl, (h14.same ((((((s15).trans s16).trans s17).trans sg0).trans sg1).trans sq1)), M14.xf, M14.no, _, rfl, a15, C 15, v9, rfl, (h15.same (((((s16).trans s17).trans sg0).trans sg1).trans sq1)), M15.xf, M15.no, _, rfl, a16, C 16, v10, rfl, (h16.same ((((s17).trans sg0).trans sg1).trans sq1)), M16.xf, M16.no, _, rfl, a17, C 17, v11, rfl, (h17.same (((sg0).trans sg1).trans sq1)), M17.xf, M17.no, by show 4 ≤ sizeLine; decide, fun g2 hg2 => ?_⟩
    have sg2 : Same Kq1 (upd Kq1 g2 (.lst [v8, v9, v10, v11])) := same_new hg2
    have fg2 : upd Kq1 g2 (.lst [v8, v9, v10, v11]) g2 = some (.lst [v8, v9, v10, v11]) := upd_same
    generalize upd Kq1 g2 (.lst [v8, v9, v10, v11]) = Kg2 at sg2 fg2 ⊢
    refine ⟨q1, g2, _, _, rfl, rfl, (sg2) _ _ fq1, fg2, by show 8 + 4 ≤ sizeLine; decide, fun q2 hq2 => ?_⟩
    simp only [List.cons_append, List.nil_append]
    have sq2 : Same Kg2 (upd Kg2 q2 (.lst [v0, v1, v2, v3, v4, v5, v6, v7, v8, v9, v10, v11])) := same_new hq2
    have fq2 : upd Kg2 q2 (.lst [v0, v1, v2, v3, v4, v5, v6, v7, v8, v9, v10, v11]) q2 = some (.lst [v0, v1, v2, v3, v4, v5, v6, v7, v8, v9, v10, v11]) := upd_same
    generalize upd Kg2 q2 (.lst [v0, v1, v2, v3, v4, v5, v6, v7, v8, v9, v10, v11]) = Kq2 at sq2 fq2 ⊢
    refine ⟨_, rfl, _, rfl, _, rfl, _, rfl, _, rfl, _, rfl, _, rfl, _, rfl, _, rfl, _, rfl, _, rfl, _, rfl, by show 12 ≤ sizeLine; decide, fun po hpo => ?_⟩
    have spo : Same Kq2 (upd Kq2 po (.lst [.ref a6, .ref a7, .ref a8, .ref a9, .ref a10, .ref a11, .ref a12, .ref a13, .ref a14, .ref a15, .ref a16, .ref a17])) := same_new hpo
    have fpo : upd Kq2 po (.lst [.ref a6, .ref a7, .ref a8, .ref a9, .ref a10, .ref a11, .ref a12, .ref a13, .ref a14, .ref a15, .ref a16, .ref a17]) po = some (.lst [.ref a6, .ref a7, .ref a8, .ref a9, .ref a10, .ref a11, .ref a12, .ref a13, .ref a14, .ref a15, .ref a16, .ref a17]) := upd_same
    generalize upd Kq2 po (.lst [.ref a6, .ref a7, .ref a8, .ref a9, .ref a10, .ref a11, .ref a12, .ref a13, .ref a14, .ref a15, .ref a16, .ref a17]) = Kpo at spo fpo ⊢
    refine ⟨_, rfl, by show 2 ≤ sizeLine; decide, fun pz hpz => ?_⟩
    have spz : Same Kpo (upd Kpo pz (.lst [.ref po, .ref q2])) := same_new hpz
    refine k pz po q2 [.ref a6, .ref a7, .ref a8, .ref a9, .ref a10, .ref a11, .ref a12, .ref a13, .ref a14, .ref a15, .ref a16, .ref a17] _ (((((((((((((((((((s6).trans s7).trans s8).trans s9).trans s10).trans s11).trans s12).trans s13).trans s14).trans s15).trans s16).trans s17).trans sg0).trans sg1).trans sq1).trans sg2).trans sq2).trans spo).trans spz) upd_same (spz _ _ fpo) rfl ?_ (((spo).trans spz) _ _ fq2)
    exact (.cons ((h6.same ((((((((((((((((((s7).trans s8).trans s9).trans s10).trans s11).trans s12).trans s13).trans s14).trans s15).trans s16).trans s17).trans sg0).trans sg1).trans sq1).trans sg2).trans sq2).trans spo).trans spz))).held (.cons ((h7.same (((((((((((((((((s8).trans s9).trans s10).trans s11).trans s12).trans s13).trans s14).trans s15).trans s16).trans s17).trans sg0).trans sg1).trans sq1).trans sg2).trans sq2).trans spo).trans spz))).held (.cons ((h8.same ((((((((((((((((s9).trans s10).trans s11).trans s12).trans s13).trans s14).trans s15).trans s16).trans s17).trans sg0).trans sg1).trans sq1).trans sg2).trans sq2).trans spo).trans spz))).held (.cons ((h9.same (((((((((((((((s10).trans s11).trans s12).trans s13).trans s14).trans s15).trans s16).trans s17).trans sg0).trans sg1).trans sq1).trans sg2).trans sq2).trans spo).trans spz))).held (.cons ((h10.same ((((((((((((((s11).trans s12).trans s13).trans s14).trans s15).trans s16).trans s17).trans sg0).trans sg1).trans sq1).trans sg2).trans sq2).trans spo).trans spz))).held (.cons ((h11.same (((((((((((((s12).trans s13).trans s14).trans s15).trans s16).trans s17).trans sg0).trans sg1).trans sq1).trans sg2).trans sq2).trans spo).trans spz))).held (.cons ((h12.same ((((((((((((s13).trans s14).trans s15).trans s16).trans s17).trans sg0).trans sg1).trans sq1).trans sg2).trans sq2).trans spo).trans spz))).held (.cons ((h13.same (((((((((((s14).trans s15).trans s16).trans s17).trans sg0).trans sg1).trans sq1).trans sg2).trans sq2).trans spo).trans spz))).held (.cons ((h14.same ((((((((((s15).trans s16).trans s17).trans sg0).trans sg1).trans sq1).trans sg2).trans sq2).trans spo).trans spz))).held (.cons ((h15.same (((((((((s16).trans s17).trans sg0).trans sg1).trans sq1).trans sg2).trans sq2).trans spo).trans spz))).held (.cons ((h16.same ((((((((s17).trans sg0).trans sg1).trans sq1).trans sg2).trans sq2).trans spo).trans spz))).held (.cons ((h17.same (((((((sg0).trans sg1).trans sq1).trans sg2).trans sq2).trans spo).trans spz))).held .nil))))))))))))
end
end LW

namespace KX
open PySem L2
theorem hits_in (off i : Nat) : ∀ n, hits off n (off + i) = if i < n then [(i : Int)] else []
  | 0 => rfl
  | n + 1 => by
    rw [hits_step, hits_in off i n]
    by_cases h : i < n
    · rw [if_pos h, if_neg (show ¬ off + i = off + n by omega), if_pos (show i < n + 1 by omega)]; rfl
    · rw [if_neg h]
      by_cases e : i = n
      · subst e; rw [if_pos rfl, if_pos (show i < i + 1 by omega)]; rfl
      · rw [if_neg (show ¬ off + i = off + n by omega), if_neg (show ¬ i < n + 1 by omega)]; rfl
theorem hits_out (off i : Nat) : ∀ n, (∀ j, j < n → i ≠ off + j) → hits off n i = []
  | 0, _ => rfl
  | n + 1, h => by
    rw [hits_step, hits_out off i n fun j hj => h j (by omega), if_neg (h n (by omega))]; rfl
def spAlone (C : Nat → Addr) : Sp := fun vs H Q _ => ∃ (pe po : Addr) (es os : List V), vs = [.ref pe, .ref po] ∧ H pe = some (.lst es) ∧ H po = some (.lst os) ∧ es.length = 6 ∧ os.length = 12 ∧ HeldL H C 0 es ∧ HeldL H C 6 os ∧
  ∀ H', Same H H' → Q (.bl true) H'
end KX
namespace LW
open PySem L2 KX
abbrev sAlone : Stmt := top 39
section
variable {P : Program} {w : World} {K : PySem.W.Frag} {mg : Str → Option Value} {base : Heap} {C : Nat → Addr} {R : Addr}
abbrev nAlone : List Str := ["_law_errors", "_law_others", "_law_k", "_law_error", "_law_strange"]
theorem scAlone : FnScope nAlone ["_law_errors", "_law_others"] (defScope sAlone) := ⟨rfl, rfl, rfl, by decide +kernel, rfl, by decide +kernel, by decide +kernel⟩
theorem ok_alone {f fP fF : Addr} {fd fdP fdF : FuncData} (F : Fun K "_law_alone" "_law_alone" sAlone f fd) (T : Txt K mg C R)
    (GP : FnOk P w K mg base CX0 1 fP fdP ["_law_error"] (spKinds C 0 6)) (mP : mg "_law_plain" = some (.ref fP)) (kP : PySem.W.keepIn K (.ref fP) = true) (bP : Binds K fdP ["_law_error"] [])
    (GF : FnOk P w K mg base CX0 1 fF fdF ["_law_error"] (spKinds C 6 12)) (mF : mg "_law_filled" = some (.ref fF)) (kF : PySem.W.keepIn K (.ref fF) = true) (bF : Binds K fdF ["_law_error"] [])
    (misi : mg "isinstance" = none) (menu : mg "enumerate" = none) (mve : mg "ValueError" = none) : FnOk P w K mg base CX0 2 f fd ["_law_errors", "_law_others"] (spAlone C) := by
  refine F.ok scAlone (fun vs H Q E h => ?_) (fun cdv A outer s H vs Q E hr h => ?_)
  · obtain ⟨pe, po, es, os, rfl, _⟩ := h
    rfl
  · obtain ⟨pe, po, es, os, rfl, he, ho, le, lo, hes, hos, k⟩ := h
    have hu := hr.units
    refine ⟨_, pss_cons (ps_for PassesOwn.never rfl (pi_enum (by rfl) menu (pa_cons (pv 0) pa_nil)) (pg_tup rfl (pgs_cons (pg_name (i := 2) scAlone.nd rfl (.inl rfl)) (pgs_cons (pg_name (i := 3) scAlone.nd rfl (.inl rfl)) pgs_nil)))
        (pss_one (ps_if (PW.pt (pw_or (pt_cmpR (op_neD hu) (pe_call GP hr (by rfl) mP kP bP .nil pass0 (pa_cons (pv 3) pa_nil)) (pe_lst (pa_cons (pv 2) pa_nil)) (nomark _)) (pw_or1 (pt_cmpR (op_neD hu) (pe_call GF hr (by rfl) mF kF bF .nil pass0 (pa_cons (pv 3) pa_nil)) (pe_lst pa_nil) (nomark _))))) (pss_one (ps_ret pe_bl)) pss_nil)))
      (pss_cons (ps_for PassesOwn.never rfl (pi_enum (by rfl) menu (pa_cons (pv 1) pa_nil)) (pg_tup rfl (pgs_cons (pg_name (i := 2) scAlone.nd rfl (.inl rfl)) (pgs_cons (pg_name (i := 3) scAlone.nd rfl (.inl rfl)) pgs_nil)))
        (pss_one (ps_if (PW.pt (pw_or (pt_cmpR (op_neD hu) (pe_call GF hr (by rfl) mF kF bF .nil pass0 (pa_cons (pv 3) pa_nil)) (pe_lst (pa_cons (pv 2) pa_nil)) (nomark _)) (pw_or1 (pt_cmpR (op_neD hu) (pe_call GP hr (by rfl) mP kP bP .nil pass0 (pa_cons (pv 3) pa_nil)) (pe_lst pa_nil) (nomark _))))) (pss_one (ps_ret pe_bl)) pss_nil)))
      (pss_cons (ps_setLc (i := 4) (own := [("_law_error", 3)]) (g := gName 3) rfl scAlone.nd rfl rfl (by rfl) (pi_list (pe_op op_cat (pv 0) (pv 1))) (blkOk_by (own := [("_law_error", 3)]) (N := nAlone) (sc := defScope sAlone) (by decide +kernel)) (fun _ _ _ _ _ => pg_name (i := 3) scAlone.nd rfl (.inl rfl))
          (fun _ _ _ _ _ => pts_one (pt_not (pt_val (pe_callB (show CallR _ _ (rIsX K) from call_isX) (by rfl) misi (by decide +kernel) (pa_cons (pv 3) (pa_cons (pe_glob (v := .ref R) rfl T.mR rfl) pa_nil)))))) (fun _ _ _ _ _ => pv 3))
      (pss_one (ps_ret (pe_and (pe_cmpR (op_eqD hu) (pv 4) (pe_lst pa_nil) (by rfl)) (pe_one (pe_cmpR (op_eqD hu) (pe_lc (own := [("_law_error", 3)]) (g := gName 3) rfl scAlone.nd (pi_list (pv 0)) (blkOk_by (own := [("_law_error", 3)]) (N := nAlone) (sc := defScope sAlone) (by decide +kernel)) (fun _ _ _ _ _ => pg_name (i := 3) scAlone.nd rfl (.inl rfl))
          (fun _ _ _ _ _ => pts_one (pt_not (pt_val (pe_callB (show CallR _ _ (rIsX K) from call_isX) (by rfl) misi (by decide +kernel) (pa_cons (pv 3) (pa_cons (pe_bltn (v := .ty "ValueError") (by rfl) mve (by decide +kernel) rfl) pa_nil)))))) (fun _ _ _ _ _ => pv 3)) (pe_lst pa_nil) (by rfl)))))))), ?_⟩
    refine ⟨_, rfl, pe, _, rfl, SqL.of he, for_enumL (K := K) (a := pe) (xs := es) (fun i σ Hx => ∃ (v2 v3 : Option V), σ = [some (.ref pe), some (.ref po), v2, v3, none] ∧ Same H Hx) ⟨none, none, rfl, Same.refl H⟩ (fun i σ Hx _ ⟨_, _, _, sx⟩ => SqL.of (sx _ _ he)) ?_ ?_⟩
    · rintro i y σ Hx T' hi ⟨v2, v3, rfl, sx⟩ hT
      have hil : i < 6 := by rw [← le]; exact (List.getElem?_eq_some_iff.mp hi).1
      obtain ⟨a, rfl, hh⟩ := hes.get hi
      refine ⟨T', _, rfl, SqT.of upd_same, rfl, _, _, rfl, _, _, rfl, rfl, ?_⟩
      have s2 := sx.trans (same_new (o := .tup [.int (i : Nat), .ref a]) hT)
      generalize upd Hx T' (.tup [.int (i : Nat), .ref a]) = H2 at s2 ⊢
      refine ⟨_, rfl, a, 0 + i, rfl, by omega, hh.same s2, fun l1 H3 s3 hl1 => ?_⟩
      rw [hits_in 0 i 6, if_pos hil] at hl1
      refine ⟨_, rfl, by show 1 ≤ sizeLine; decide, fun l2 hl2 => ?_⟩
      have s4 := s3.trans (same_new (o := .lst [.int (i : Nat)]) hl2)
      refine ⟨.list ([(i : Int)].map PyData.int), .list ([(i : Int)].map PyData.int), .lst (SqL.of (same_new hl2 _ _ hl1)) (dp_ints [(i : Int)]), .lst (SqL.of upd_same) (dp_ints [(i : Int)]), shaped_ints _, shaped_ints _, _, rfl, ?_⟩
      rw [eqv_ints]
      refine iteNS rfl ?_
      generalize upd H3 l2 (.lst [.int (i : Nat)]) = H4 at s4
      refine ⟨_, rfl, a, 0 + i, rfl, by omega, hh.same (s2.trans s4), fun l3 H5 s5 hl3 => ?_⟩
      rw [hits_out 6 (0 + i) 12 fun j _ => by omega] at hl3
      refine ⟨Nat.zero_le _, fun l4 hl4 => ?_⟩
      refine ⟨.list (([] : List Int).map PyData.int), .list (([] : List Int).map PyData.int), .lst (SqL.of (same_new hl4 _ _ hl3)) (dp_ints []), .lst (SqL.of upd_same) (dp_ints []), shaped_ints _, shaped_ints _, _, rfl, ?_⟩
      rw [eqv_ints]
      exact iteNS rfl ⟨_, _, rfl, ((s2.trans s4).trans s5).trans (same_new hl4)⟩
    rintro σ H1 ⟨v2, v3, rfl, s1⟩
    refine ⟨_, rfl, po, _, rfl, SqL.of (s1 _ _ ho), for_enumL (K := K) (a := po) (xs := os) (fun i σ Hx => ∃ (v2 v3 : Option V), σ = [some (.ref pe), some (.ref po), v2, v3, none] ∧ Same H Hx) ⟨_, _, rfl, s1⟩ (fun i σ Hx _ ⟨_, _, _, sx⟩ => SqL.of (sx _ _ ho)) ?_ ?_⟩
    · rintro i y σ Hx T' hi ⟨v2, v3, rfl, sx⟩ hT
      have hil : i < 12 := by rw [← lo]; exact (List.getElem?_eq_some_iff.mp hi).1
      obtain ⟨a, rfl, hh⟩ := hos.get hi
      refine ⟨T', _, rfl, SqT.of upd_same, rfl, _, _, rfl, _, _, rfl, rfl, ?_⟩
      have s2 := sx.trans (same_new (o := .tup [.int (i : Nat), .ref a]) hT)
      generalize upd Hx T' (.tup [.int (i : Nat), .ref a]) = H2 at s2 ⊢
      refine ⟨_, rfl, a, 6 + i, rfl, by omega, hh.same s2, fun l1 H3 s3 hl1 => ?_⟩
      rw [hits_in 6 i 12, if_pos hil] at hl1
      refine ⟨_, rfl, by show 1 ≤ sizeLine; decide, fun l2 hl2 => ?_⟩
      have s4 := s3.trans (same_new (o := .lst [.int (i : Nat)]) hl2)
      refine ⟨.list ([(i : Int)].map PyData.int), .list ([(i : Int)].map PyData.int), .lst (SqL.of (same_new hl2 _ _ hl1)) (dp_ints [(i : Int)]), .lst (SqL.of upd_same) (dp_ints [(i : Int)]), shaped_ints _, shaped_ints _, _, rfl, ?_⟩
      rw [eqv_ints]
      refine iteNS rfl ?_
      generalize upd H3 l2 (.lst [.int (i : Nat)]) = H4 at s4
      refine ⟨_, rfl, a, 6 + i, rfl, by omega, hh.same (s2.trans s4), fun l3 H5 s5 hl3 => ?_⟩
      rw [hits_out 0 (6 + i) 6 fun j _ => by omega] at hl3
      refine ⟨Nat.zero_le _, fun l4 hl4 => ?_⟩
      refine ⟨.list (([] : List Int).map PyData.int), .list (([] : List Int).map PyData.int), .lst (SqL.of (same_new hl4 _ _ hl3)) (dp_ints []), .lst (SqL.of upd_same) (dp_ints []), shaped_ints _, shaped_ints _, _, rfl, ?_⟩
      rw [eqv_ints]
      exact iteNS rfl ⟨_, _, rfl, ((s2.trans s4).trans s5).trans (same_new hl4)⟩
    rintro σ H2 ⟨v2, v3, rfl, s2⟩
    refine ⟨_, rfl, _, rfl, pe, po, _, _, rfl, rfl, s2 _ _ he, s2 _ _ ho, by rw [le, lo]; decide, fun q hq => ⟨q, rfl, ⟨_, SqL.of upd_same⟩, fun D hD => ?_⟩⟩
    have s3 := s2.trans (same_new (o := .lst (es ++ os)) hq)
    have hq3 : upd H2 q (.lst (es ++ os)) q = some (.lst (es ++ os)) := upd_same
    generalize upd H2 q (.lst (es ++ os)) = H3 at s3 hq3 hD ⊢
    have hall : ∀ v ∈ es ++ os, ∃ a j, v = .ref a ∧ j < 18 ∧ Held H a (C j) := by
      intro v hv
      rcases List.mem_append.mp hv with h | h
      · obtain ⟨a, j, e, hj, q⟩ := hes.mem h
        exact ⟨a, 0 + j, e, by omega, q⟩
      · obtain ⟨a, j, e, hj, q⟩ := hos.mem h
        exact ⟨a, 6 + j, e, by omega, q⟩
    refine lc_list (K := K) (a := q) (xs := es ++ os) (fun i Hx => At H3 Hx D []) (At.nil hD) (fun i Hx _ aa => SqL.of (aa.1 _ _ hq3)) ?_ ?_
    · rintro i y Hx hi aa
      obtain ⟨a, j, rfl, hj, hh⟩ := hall y (List.mem_of_getElem? hi)
      refine ⟨rfl, _, rfl, a, C j, _, _, _, rfl, hh.same (s3.trans aa.1), T.er j hj, .own _, T.kR j hj, _, rfl, ?_⟩
      exact iteF aa
    · intro Hx aa
      have s4 := s3.trans aa.1
      refine ⟨_, rfl, Nat.zero_le _, fun b hb => ⟨.list (([] : List Int).map PyData.int), .list (([] : List Int).map PyData.int), .lst (SqL.of (same_new hb _ _ aa.2)) (dp_ints []), .lst (SqL.of upd_same) (dp_ints []), shaped_ints _, shaped_ints _, _, rfl, ?_⟩⟩
      rw [eqv_ints, decide_eq_true rfl]
      refine iteT ?_
      have s5 := s4.trans (same_new (o := .lst []) hb)
      generalize upd Hx b (.lst []) = H5 at s5 ⊢
      refine ⟨_, rfl, pe, rfl, ⟨_, SqL.of (s5 _ _ he)⟩, fun D2 hD2 => ?_⟩
      refine lc_list (K := K) (a := pe) (xs := es) (fun i Hx => At H5 Hx D2 []) (At.nil hD2) (fun i Hx _ aa => SqL.of (aa.1 _ _ (s5 _ _ he))) ?_ ?_
      · rintro i y Hx hi aa2
        obtain ⟨a, j, rfl, hj, hh⟩ := hall y (List.mem_append_left _ (List.mem_of_getElem? hi))
        refine ⟨rfl, _, rfl, a, C j, _, _, _, rfl, hh.same (s5.trans aa2.1), T.er j hj, .ty _, T.kV j hj, _, rfl, ?_⟩
        exact iteF aa2
      · intro Hy aa2
        refine ⟨Nat.zero_le _, fun b2 hb2 => ⟨.list (([] : List Int).map PyData.int), .list (([] : List Int).map PyData.int), .lst (SqL.of (same_new hb2 _ _ aa2.2)) (dp_ints []), .lst (SqL.of upd_same) (dp_ints []), shaped_ints _, shaped_ints _, ?_⟩⟩
        rw [eqv_ints, decide_eq_true rfl]
        exact k _ ((s5.trans aa2.1).trans (same_new hb2))
end
end LW

namespace KX
open PySem L2
theorem hide_upd {H : Hp} {d c D : Addr} {o : HO} : hideX (upd H D o) d c D = hideX H d c D := by
  funext b
  unfold hideX
  by_cases h : b = d ∨ b = c ∨ b = D
  · rw [if_pos h, if_pos h]
  · rw [if_neg h, if_neg h, upd_ne fun z => h (.inr (.inr z))]
theorem len12 {ws : List V} (h : ws.length = 12) : ∃ v0 v1 v2 v3 v4 v5 v6 v7 v8 v9 v10 v11, ws = [v0, v1, v2, v3, v4, v5, v6, v7, v8, v9, v10, v11] := by
  match ws, h with
  | [v0, v1, v2, v3, v4, v5, v6, v7, v8, v9, v10, v11], _ => exact ⟨v0, v1, v2, v3, v4, v5, v6, v7, v8, v9, v10, v11, rfl⟩
def limits : List Int := [1000000000000, 24, 100, 2000, 7, 20, 1000000000000, 60, 20, 30, 12, 100]
theorem fine_limits : FineQ (.list (limits.map PyData.int)) 1 200 := ⟨by decide +kernel, by decide +kernel, by decide +kernel⟩
/-- what the written part says of the limits -/
structure Lims (mg : Str → Option Value) : Prop where
  l0 : ∃ t, mg "MAX_KEY" = some (.int 1000000000000 t)
  l1 : ∃ t, mg "MAX_PLACES" = some (.int 24 t)
  l2 : ∃ t, mg "MAX_ROUNDS" = some (.int 100 t)
  l3 : ∃ t, mg "LISTED" = some (.int 2000 t)
  l4 : ∃ t, mg "SMALL_PLACES" = some (.int 7 t)
  l5 : ∃ t, mg "MAX_RUNS" = some (.int 20 t)
  l6 : ∃ t, mg "MAX_LENGTH" = some (.int 1000000000000 t)
  l7 : ∃ t, mg "MAX_ACTIONS" = some (.int 60 t)
  l8 : ∃ t, mg "BATCH" = some (.int 20 t)
  l9 : ∃ t, mg "HISTORY" = some (.int 30 t)
  l10 : ∃ t, mg "COUNT_PLACES" = some (.int 12 t)
  l11 : ∃ t, mg "MAX_LOSSES" = some (.int 100 t)
end KX
namespace LW
open PySem L2 KX
abbrev sLaw : Stmt := top 41
section
variable {P : Program} {w : World} {K : PySem.W.Frag} {mg : Str → Option Value} {base : Heap} {C : Nat → Addr} {R : Addr}
abbrev nLaw : List Str := ["_law_script", "_law_supply_here", "_law_values", "_law_others", "_law_fields", "_law_errors", "_law_limits", "_law_k"]
theorem scLaw : FnScope nLaw ["_law_script"] (defScope sLaw) := ⟨rfl, rfl, rfl, by decide +kernel, rfl, by decide +kernel, by decide +kernel⟩
def spLaw (K : PySem.W.Frag) : Sp := fun vs H Q _ => ∃ (a : Addr) (ns : List Int), vs = [.ref a] ∧ SqL K H a (ns.map V.int) ∧ ns.length ≤ 63 ∧ ∀ H', Q (.bl true) H'
theorem ok_law {f fU fD fM fA : Addr} {fd fdU fdD fdM fdA : FuncData} (F : Fun K "law" "law" sLaw f fd) (T : Txt K mg C R) (L : Lims mg)
    (GU : FnOk P w K mg base CX0 1 fU fdU ["_law_script"] (spSupply K)) (mU : mg "_law_supply" = some (.ref fU)) (kU : PySem.W.keepIn K (.ref fU) = true) (bU : Binds K fdU ["_law_script"] [])
    (GD : FnOk P w K mg base CX0 3 fD fdD ["_law_supply_here"] (spOdd K)) (mD : mg "_law_odd" = some (.ref fD)) (kD : PySem.W.keepIn K (.ref fD) = true) (bD : Binds K fdD ["_law_supply_here"] [])
    (GM : FnOk P w K mg base CX0 3 fM fdM ["_law_values"] (spMade C)) (mM : mg "_law_made" = some (.ref fM)) (kM : PySem.W.keepIn K (.ref fM) = true) (bM : Binds K fdM ["_law_values"] [])
    (GA : FnOk P w K mg base CX0 2 fA fdA ["_law_errors", "_law_others"] (spAlone C)) (mA : mg "_law_alone" = some (.ref fA)) (kA : PySem.W.keepIn K (.ref fA) = true) (bA : Binds K fdA ["_law_errors", "_law_others"] [])
    (M0 : Mk0 P w K mg base (C 0))
    (M1 : Mk0 P w K mg base (C 1))
    (M2 : Mk0 P w K mg base (C 2))
    (M3 : Mk0 P w K mg base (C 3))
    (M4 : Mk0 P w K mg base (C 4))
    (M5 : Mk0 P w K mg base (C 5))
    (mran : mg "range" = none) (mrep : mg "repr" = none) : FnOkG P w K mg base CX0 4 f fd ["_law_script"] (spLaw K) := by
  obtain ⟨t0, l0⟩ := L.l0
  obtain ⟨t1, l1⟩ := L.l1
  obtain ⟨t2, l2⟩ := L.l2
  obtain ⟨t3, l3⟩ := L.l3
  obtain ⟨t4, l4⟩ := L.l4
  obtain ⟨t5, l5⟩ := L.l5
  obtain ⟨t6, l6⟩ := L.l6
  obtain ⟨t7, l7⟩ := L.l7
  obtain ⟨t8, l8⟩ := L.l8
  obtain ⟨t9, l9⟩ := L.l9
  obtain ⟨t10, l10⟩ := L.l10
  obtain ⟨t11, l11⟩ := L.l11
  refine Fun.okG F scLaw (fun vs H Q E h => ?_) (fun cdv A outer s H vs Q E hgd hr h => ?_)
  · obtain ⟨a, ns, rfl, _⟩ := h
    rfl
  · obtain ⟨a, ns, rfl, hS, hl, k⟩ := h
    have hr1 : Room 1 _ := hr.mono (by decide)
    have hr2 : Room 2 _ := hr.mono (by decide)
    have hu := hr.units
    refine ⟨_, pss_cons (ps_set (i := 1) scLaw.nd rfl (.inr rfl) (pe_call GU hr1 (by rfl) mU kU bU .nil pass0 (pa_cons (pv 0) pa_nil))) (
      pss_cons (ps_setLc (i := 2) (own := [("_law_k", 7)]) (g := gName 7) (tt := tYes) rfl scLaw.nd rfl rfl (by rfl) (pi_range1 (by rfl) mran (pa_cons pe_int pa_nil)) (blkOk_by (own := [("_law_k", 7)]) (N := nLaw) (sc := defScope sLaw) (by decide +kernel)) (fun _ _ _ _ _ => pg_name (i := 7) scLaw.nd rfl (.inl rfl)) (fun _ _ _ _ _ => pts_nil) (fun _ _ _ _ _ => pe_call GD hr (by rfl) mD kD bD .nil pass0 (pa_cons (pv 1) pa_nil))) (
      pss_cons (ps_asg (pe_call GM hr (by rfl) mM kM bM .nil pass0 (pa_cons (pv 2) pa_nil)) (pg_lst rfl (pgs_cons (pg_name (i := 3) scLaw.nd rfl (.inl rfl)) (pgs_cons (pg_name (i := 4) scLaw.nd rfl (.inl rfl)) pgs_nil)))) (
      pss_cons (ps_set (i := 5) scLaw.nd rfl (.inl rfl) (pe_lst (pa_cons (pe_mk0 M0 hr2 (by rfl) T.m0) (pa_cons (pe_mk0 M1 hr2 (by rfl) T.m1) (pa_cons (pe_mk0 M2 hr2 (by rfl) T.m2) (pa_cons (pe_mk0 M3 hr2 (by rfl) T.m3) (pa_cons (pe_mk0 M4 hr2 (by rfl) T.m4) (pa_cons (pe_mk0 M5 hr2 (by rfl) T.m5) pa_nil)))))))) (
      pss_cons (ps_if (PW.pt (pw_or (pt_cmpR op_ne (pe_callB (cr_reprQ hgd hu) (by rfl) mrep (by decide +kernel) (pa_cons (pv 4) pa_nil)) (pe_callB (cr_reprQ hgd hu) (by rfl) mrep (by decide +kernel) (pa_cons (pv 2) pa_nil)) (nomark _)) (pw_or1 (pt_not (pt_val (pe_call GA hr2 (by rfl) mA kA bA .nil pass0 (pa_cons (pv 5) (pa_cons (pv 3) pa_nil)))))))) (pss_one (ps_ret pe_bl)) pss_nil) (
      pss_cons (ps_set (i := 6) scLaw.nd rfl (.inl rfl) (pe_lst (pa_cons (pe_glob (v := .int 1000000000000) rfl l0 ⟨_, rfl⟩) (pa_cons (pe_glob (v := .int 24) rfl l1 ⟨_, rfl⟩) (pa_cons (pe_glob (v := .int 100) rfl l2 ⟨_, rfl⟩) (pa_cons (pe_glob (v := .int 2000) rfl l3 ⟨_, rfl⟩) (pa_cons (pe_glob (v := .int 7) rfl l4 ⟨_, rfl⟩) (pa_cons (pe_glob (v := .int 20) rfl l5 ⟨_, rfl⟩) (pa_cons (pe_glob (v := .int 1000000000000) rfl l6 ⟨_, rfl⟩) pa_nil))))))))) (
      pss_cons (ps_set (i := 6) scLaw.nd rfl (.inl rfl) (pe_op op_cat (pv 6) (pe_lst (pa_cons (pe_glob (v := .int 60) rfl l7 ⟨_, rfl⟩) (pa_cons (pe_glob (v := .int 20) rfl l8 ⟨_, rfl⟩) (pa_cons (pe_glob (v := .int 30) rfl l9 ⟨_, rfl⟩) (pa_cons (pe_glob (v := .int 12) rfl l10 ⟨_, rfl⟩) (pa_cons (pe_glob (v := .int 100) rfl l11 ⟨_, rfl⟩) pa_nil)))))))) (
      pss_one (ps_ret (pe_cmpR op_eq (pe_callB (cr_reprQ hgd hu) (by rfl) mrep (by decide +kernel) (pa_cons (pv 6) pa_nil)) (pe_callB (cr_reprQ hgd hu) (by rfl) mrep (by decide +kernel) (pa_cons (pe_lst (pa_cons (pe_op op_pow pe_int pe_int) (pa_cons pe_int (pa_cons pe_int (pa_cons pe_int (pa_cons pe_int (pa_cons pe_int (pa_cons (pe_op op_pow pe_int pe_int) (pa_cons pe_int (pa_cons pe_int (pa_cons pe_int (pa_cons pe_int (pa_cons pe_int pa_nil))))))))))))) pa_nil)) (by rfl)))))))))), ?_⟩
    refine ⟨_, rfl, a, ns, rfl, hS, hl, fun d c H1 hd0 hc0 s1 S1 => ?_⟩
    refine ⟨12, rfl, by decide, by decide, fun D hD => ?_⟩
    have hDd : D ≠ d := fun z => S1.hasD (z ▸ hD)
    have hDc : D ≠ c := fun z => S1.hasC (z ▸ hD)
    refine lc_range (lo := 0) (n := 12) (fun i Hx => ∃ ws : List V, ws.length = i ∧ Sup Hx d c ∧ Hx D = some (.lst ws) ∧ Parts K (hideX Hx d c D) ws) ⟨[], rfl, S1.same (same_new hD), upd_same, .nil⟩ ?_ ?_
    · rintro i Hx hi ⟨ws, hw, Sx, hDx, aw⟩
      refine ⟨rfl, _, rfl, d, c, D, rfl, ⟨Sx, by rw [hDx]; exact nofun⟩, fun v dd H' hdd hv S' x' => ?_⟩
      refine ⟨ws, x' _ _ hDd hDc hDx, small1000 (by omega), ws ++ [v], by rw [List.length_append, hw]; rfl, S'.s.upd hDd hDc, upd_same, ?_⟩
      rw [hide_upd]
      exact (aw.same (hide_mono x')).app (.cons ⟨dd, hv, (odd_fine dd hdd).mono (by decide) (by decide)⟩ .nil)
    rintro Hx ⟨ws, hw, Sx, hDx, aw⟩
    obtain ⟨v0, v1, v2, v3, v4, v5, v6, v7, v8, v9, v10, v11, rfl⟩ := len12 hw
    obtain ⟨ds, hds, hfs⟩ := aw.all
    have hdq : DqAll K Hx [v0, v1, v2, v3, v4, v5, v6, v7, v8, v9, v10, v11] ds := hds.same hide_same
    have fl : FineQ (.list ds) 3 4000 := (FineQ.lst hfs).mono (by decide) (by rw [← dqAll_len hds]; show 12 * (300 + 2) + 3 ≤ 4000; decide)
    clear aw hds
    refine ⟨_, rfl, D, v0, v1, v2, v3, v4, v5, v6, v7, v8, v9, v10, v11, rfl, hDx, fun p po pf os H2 s2 hp hpo hlo hos hpf => ?_⟩
    refine ⟨p, _, rfl, SqL.of hp, rfl, _, _, rfl, _, _, rfl, rfl, ?_⟩
    show tSeq _ _ _ [some (.ref a), some (.ref d), some (.ref D), some (.ref po), some (.ref pf), none, none, none] H2
    refine ⟨Nat.zero_le _, fun a0 ha0 => ⟨a0, rfl, rfl, ?_⟩⟩
    have z0 : Same H2 (upd H2 a0 (exo a0 (C 0) none)) := same_new ha0
    have e0 : Held (upd H2 a0 (exo a0 (C 0) none)) a0 (C 0) := ⟨none, upd_same, .inl rfl⟩
    generalize upd H2 a0 (exo a0 (C 0) none) = E0 at z0 e0 ⊢
    refine ⟨Nat.zero_le _, fun a1 ha1 => ⟨a1, rfl, rfl, ?_⟩⟩
    have z1 : Same E0 (upd E0 a1 (exo a1 (C 1) none)) := same_new ha1
    have e1 : Held (upd E0 a1 (exo a1 (C 1) none)) a1 (C 1) := ⟨none, upd_same, .inl rfl⟩
    generalize upd E0 a1 (exo a1 (C 1) none) = E1 at z1 e1 ⊢
    refine ⟨Nat.zero_le _, fun a2 ha2 => ⟨a2, rfl, rfl, ?_⟩⟩
    have z2 : Same E1 (upd E1 a2 (exo a2 (C 2) none)) := same_new ha2
    have e2 : Held (upd E1 a2 (exo a2 (C 2) none)) a2 (C 2) := ⟨none, upd_same, .inl rfl⟩
    generalize upd E1 a2 (exo a2 (C 2) none) = E2 at z2 e2 ⊢
    refine ⟨Nat.zero_le _, fun a3 ha3 => ⟨a3, rfl, rfl, ?_⟩⟩
    have z3 : Same E2 (upd E2 a3 (exo a3 (C 3) none)) := same_new ha3
    have e3 : Held (upd E2 a3 (exo a3 (C 3) none)) a3 (C 3) := ⟨none, upd_same, .inl rfl⟩
    generalize upd E2 a3 (exo a3 (C 3) none) = E3 at z3 e3 ⊢
    refine ⟨Nat.zero_le _, fun a4 ha4 => ⟨a4, rfl, rfl, ?_⟩⟩
    have z4 : Same E3 (upd E3 a4 (exo a4 (C 4) none)) := same_new ha4
    have e4 : Held (upd E3 a4 (exo a4 (C 4) none)) a4 (C 4) := ⟨none, upd_same, .inl rfl⟩
    generalize upd E3 a4 (exo a4 (C 4) none) = E4 at z4 e4 ⊢
    refine ⟨Nat.zero_le _, fun a5 ha5 => ⟨a5, rfl, rfl, ?_⟩⟩
    have z5 : Same E4 (upd E4 a5 (exo a5 (C 5) none)) := same_new ha5
    have e5 : Held (upd E4 a5 (exo a5 (C 5) none)) a5 (C 5) := ⟨none, upd_same, .inl rfl⟩
    generalize upd E4 a5 (exo a5 (C 5) none) = E5 at z5 e5 ⊢
    refine ⟨by show 6 ≤ sizeLine; decide, fun pe hpe => ?_⟩
    have zp : Same E5 (upd E5 pe (.lst [.ref a0, .ref a1, .ref a2, .ref a3, .ref a4, .ref a5])) := same_new hpe
    have fp : upd E5 pe (.lst [.ref a0, .ref a1, .ref a2, .ref a3, .ref a4, .ref a5]) pe = some (.lst [.ref a0, .ref a1, .ref a2, .ref a3, .ref a4, .ref a5]) := upd_same
    generalize upd E5 pe (.lst [.ref a0, .ref a1, .ref a2, .ref a3, .ref a4, .ref a5]) = H3 at zp fp ⊢
    have hes : HeldL H3 C 0 [.ref a0, .ref a1, .ref a2, .ref a3, .ref a4, .ref a5] := (.cons (e0.same ((((((z1).trans z2).trans z3).trans z4).trans z5).trans zp)) (.cons (e1.same (((((z2).trans z3).trans z4).trans z5).trans zp)) (.cons (e2.same ((((z3).trans z4).trans z5).trans zp)) (.cons (e3.same (((z4).trans z5).trans zp)) (.cons (e4.same ((z5).trans zp)) (.cons (e5.same (zp)) .nil))))))
    have s3 : Same H2 H3 := ((((((z0).trans z1).trans z2).trans z3).trans z4).trans z5).trans zp
    show tSeq _ _ _ [some (.ref a), some (.ref d), some (.ref D), some (.ref po), some (.ref pf), some (.ref pe), none, none] H3
    clear z0 e0 z1 e1 z2 e2 z3 e3 z4 e4 z5 e5
    have s23 := s2.trans s3
    refine ⟨_, rfl, _, .list ds, rfl, .lst (SqL.of (s3 _ _ hpf)) (hdq.same s23), fl.sh, Nat.le_trans fl.dp (by decide), Nat.le_trans fl.sz (by decide), ?_⟩
    refine ⟨_, rfl, _, .list ds, rfl, .lst (SqL.of (s23 _ _ hDx)) (hdq.same s23), fl.sh, Nat.le_trans fl.dp (by decide), Nat.le_trans fl.sz (by decide), rfl, _, rfl, ?_⟩
    refine iteNS rfl ?_
    refine ⟨_, rfl, _, rfl, pe, po, _, os, rfl, fp, s3 _ _ hpo, rfl, hlo, hes, hos.same s3, fun H4 s4 => ⟨_, rfl, ?_⟩⟩
    refine iteF ?_
    refine ⟨by show 7 ≤ sizeLine; decide, fun m1 hm1 => ?_⟩
    have f1 : upd H4 m1 (.lst [.int 1000000000000, .int 24, .int 100, .int 2000, .int 7, .int 20, .int 1000000000000]) m1 = some (.lst [.int 1000000000000, .int 24, .int 100, .int 2000, .int 7, .int 20, .int 1000000000000]) := upd_same
    generalize upd H4 m1 (.lst [.int 1000000000000, .int 24, .int 100, .int 2000, .int 7, .int 20, .int 1000000000000]) = H5 at f1 ⊢
    refine ⟨_, rfl, by show 5 ≤ sizeLine; decide, fun m2 hm2 => ?_⟩
    have f2 : upd H5 m2 (.lst [.int 60, .int 20, .int 30, .int 12, .int 100]) m2 = some (.lst [.int 60, .int 20, .int 30, .int 12, .int 100]) := upd_same
    have f1' := same_new (o := .lst [.int 60, .int 20, .int 30, .int 12, .int 100]) hm2 _ _ f1
    generalize upd H5 m2 (.lst [.int 60, .int 20, .int 30, .int 12, .int 100]) = H6 at f2 f1' ⊢
    refine ⟨m1, m2, _, _, rfl, rfl, f1', f2, by show 7 + 5 ≤ sizeLine; decide, fun m3 hm3 => ?_⟩
    simp only [List.cons_append, List.nil_append]
    have f3 : upd H6 m3 (.lst [.int 1000000000000, .int 24, .int 100, .int 2000, .int 7, .int 20, .int 1000000000000, .int 60, .int 20, .int 30, .int 12, .int 100]) m3 = some (.lst (limits.map V.int)) := upd_same
    generalize upd H6 m3 (.lst [.int 1000000000000, .int 24, .int 100, .int 2000, .int 7, .int 20, .int 1000000000000, .int 60, .int 20, .int 30, .int 12, .int 100]) = H7 at f3 ⊢
    refine ⟨_, rfl, _, .list (limits.map PyData.int), rfl, .lst (SqL.of f3) (dq_ints limits), fine_limits.sh, Nat.le_trans fine_limits.dp (by decide), Nat.le_trans fine_limits.sz (by decide), ?_⟩
    refine ⟨_, _, rfl, rfl, ⟨by decide, by decide, by decide⟩, _, _, rfl, rfl, ⟨by decide, by decide, by decide⟩, by show 12 ≤ sizeLine; decide, fun m4 hm4 => ?_⟩
    refine ⟨_, .list (limits.map PyData.int), rfl, .lst (SqL.of (upd_same : upd H7 m4 (.lst (limits.map V.int)) m4 = _)) (dq_ints limits), fine_limits.sh, Nat.le_trans fine_limits.dp (by decide), Nat.le_trans fine_limits.sz (by decide), rfl, ?_⟩
    rw [decide_eq_true rfl]
    exact k _
end
end LW

namespace LW
open PySem L2 KX
/-! what the top leaves of the classes of errors -/
structure ErrT (K : PySem.W.Frag) (R c : Addr) : Prop where
  ga : PySem.W.findIn K (.ref c) "__getattribute__" = some (some (.builtin "BaseException.__getattribute__"))
  gg : PySem.W.findIn K (.ref c) "__getattr__" = some none
  sb : PySem.W.subIn K (.ref c) (.type "BaseException") = some true
  ca : PySem.W.findIn K (.ref c) "__class__" = some (some (.builtin "object.__class__"))
  cn : PySem.W.specialIn K (.builtin "object.__class__") "__get__" = some (some (.builtin "getset_descriptor.__get__"))
  ct : PySem.W.takesIn K (.builtin "object.__class__") = some true
  mo : PySem.W.mroIn K c (.type "object") = some true
  hd : PySem.W.hasDictIn K c = true
  ty : PySem.W.typeIn K (.ref c) = some (.type "type")
  sR : PySem.W.subIn K (.ref c) (.ref R) = some true
  sV : PySem.W.subIn K (.ref c) (.type "ValueError") = some true
  nR : (Value.ref c == Value.ref R) = false
theorem ErrT.er {K : PySem.W.Frag} {R c : Addr} (h : ErrT K R c) : ErrC K c := ⟨cls_some h.hd, h.ga, h.gg, h.sb, h.ca, h.cn, h.ct, h.mo⟩
theorem ErrT.xf {K : PySem.W.Frag} {R c : Addr} (h : ErrT K R c) : XfC K c := ⟨h.ga, h.gg, h.sb, h.hd⟩
def AllT (K : PySem.W.Frag) (R : Addr) : List Addr → Prop
  | [] => True
  | c :: r => ErrT K R c ∧ AllT K R r
theorem allT_get {K : PySem.W.Frag} {R : Addr} : ∀ {cs : List Addr} (i : Nat), AllT K R cs → i < cs.length → ErrT K R (cs.getD i 0)
  | _ :: _, 0, h, _ => h.1
  | _ :: _, i + 1, h, hi => allT_get i h.2 (Nat.lt_of_succ_lt_succ hi)
def SubRow (K : PySem.W.Frag) (c : Addr) (i : Nat) : Nat → List Addr → Prop
  | _, [] => True
  | n, D :: r => (n = i ∨ (PySem.W.subIn K (.ref c) (.ref D) = some false ∧ (Value.ref c == Value.ref D) = false)) ∧ SubRow K c i (n + 1) r
theorem subRow_get {K : PySem.W.Frag} {c : Addr} {i : Nat} : ∀ {cs : List Addr} {n : Nat} (j : Nat), SubRow K c i n cs → j < cs.length → n + j ≠ i → PySem.W.subIn K (.ref c) (.ref (cs.getD j 0)) = some false ∧ (Value.ref c == Value.ref (cs.getD j 0)) = false
  | _ :: _, n, 0, h, _, hn => h.1.resolve_left hn
  | _ :: _, n, j + 1, h, hj, hn => subRow_get j h.2 (Nat.lt_of_succ_lt_succ hj) (by omega)
def AllRows (K : PySem.W.Frag) (cs : List Addr) : Nat → List Addr → Prop
  | _, [] => True
  | n, c :: r => SubRow K c n 0 cs ∧ AllRows K cs (n + 1) r
theorem rows_get {K : PySem.W.Frag} {cs : List Addr} : ∀ {rs : List Addr} {n : Nat} (i : Nat), AllRows K cs n rs → i < rs.length → SubRow K (rs.getD i 0) (n + i) 0 cs
  | _ :: _, _, 0, h, _ => h.1
  | _ :: _, n, i + 1, h, hi => by
    have := rows_get i h.2 (Nat.lt_of_succ_lt_succ hi)
    rw [show n + (i + 1) = n + 1 + i by omega]; exact this
theorem kit_all {K : PySem.W.Frag} {R : Addr} {cs : List Addr} (hT : AllT K R cs) (hR : AllRows K cs 0 cs) (i j : Nat) (hi : i < cs.length) (hj : j < cs.length) :
    PySem.W.kitOne K (.ref (cs.getD i 0)) (.ref (cs.getD j 0)) = some (decide (i = j)) := by
  by_cases e : i = j
  · subst e; rw [decide_eq_true rfl]; exact kit_self
  · rw [decide_eq_false e]
    have h := subRow_get j (rows_get i hR hi) hj (by omega)
    have t := allT_get j hT hj
    exact kit_own t.hd t.ty h.1 h.2
/-- the class object itself -/
theorem oex_mk {K : PySem.W.Frag} {C : Addr} {nm q : Str} {N : Addr} {bs bm : List Value} {sn : List Str} {sub : List Value} {ab : Bool} {col : Option Bool} {dd : Option Addr} {k0 k1 k2 k3 k5 : Option Value}
    (lC : K.lookup C = some (excClassObj nm q C N bs bm true sn sub ab col dd k0 k1 k2 k3 k5 "ValueError.__new__")) (rC : PySem.HandSPX.refsVE bm = true) (sa : PySem.W.findIn K (.ref C) "__setattr__" = some (some (.builtin "object.__setattr__")))
    (ex : PySem.W.subIn K (.ref C) (.type "BaseException") = some true) (ty : PySem.W.typeIn K (.ref C) = some (.type "type")) (kC : PySem.W.keepIn K (.ref C) = true) : OexC K C :=
  ⟨⟨_, _, _, _, _, _, _, _, _, _, _, _, _, _, _, lC, rC⟩, sa, ex, ty, kC⟩
def InitT (K : PySem.W.Frag) (C : Addr) (x : Str) (st : Stmt) : Prop := ∃ J fd, PySem.W.findIn K (.ref C) "__init__" = some (some (.ref J)) ∧ PySem.W.typeIn K (.ref J) = some (.type "function") ∧ Fun K "__init__" x st J fd
theorem init_mk {K : PySem.W.Frag} {C J : Addr} {x : Str} {st : Stmt} {od an : Option Addr} {sl : Array (Option Value)} {oc kV dc pm cd ct : Value} (iC : PySem.W.findIn K (.ref C) "__init__" = some (some (.ref J))) (tI : PySem.W.typeIn K (.ref J) = some (.type "function"))
    (lJ : K.lookup J = some ⟨oc, od, .func (PySem.W.fnOf "__init__" x (defArgs st) (defBody st) (defScope st) .none kV dc pm an cd ct), sl⟩) (cJ : PySem.W.codeIn K cd x = true) (kJ : PySem.W.keepIn K (.ref J) = true) : InitT K C x st :=
  ⟨J, _, iC, tI, fun_mk (st := st) lJ cJ kJ⟩
end LW

namespace LW
open PySem L2 KX
section
theorem all_mk {l : PySem.W.OpenLaw} {w : World} {K : PySem.W.Frag} {h : Heap} {mg : Str → Option Value} {fa fdU fdT fdO fdD fdP fdF fdA fdM fW : Addr} (X : K.In h) (G : h.Ns mainGlobals mg) (hfa : mg "law" = some (.ref fa))
    {oddU andU : Option Addr} {sldU : Array (Option Value)} {ocdU kVdU dcdU pmdU cddU ctdU : Value}
    {oddT andT : Option Addr} {sldT : Array (Option Value)} {ocdT kVdT dcdT pmdT cddT ctdT : Value}
    {oddO andO : Option Addr} {sldO : Array (Option Value)} {ocdO kVdO dcdO pmdO cddO ctdO : Value}
    {oddD andD : Option Addr} {sldD : Array (Option Value)} {ocdD kVdD dcdD pmdD cddD ctdD : Value}
    {oddP andP : Option Addr} {sldP : Array (Option Value)} {ocdP kVdP dcdP pmdP cddP ctdP : Value}
    {oddF andF : Option Addr} {sldF : Array (Option Value)} {ocdF kVdF dcdF pmdF cddF ctdF : Value}
    {oddA andA : Option Addr} {sldA : Array (Option Value)} {ocdA kVdA dcdA pmdA cddA ctdA : Value}
    {oddM andM : Option Addr} {sldM : Array (Option Value)} {ocdM kVdM dcdM pmdM cddM ctdM : Value}
    {odW anW : Option Addr} {slW : Array (Option Value)} {ocW kVW dcW pmW cdW ctW : Value}
    (adU : PySem.W.nsIn K mainGlobals "_law_supply" = some (some (.ref fdU))) (ldU : K.lookup fdU = some ⟨ocdU, oddU, .func (PySem.W.fnOf "_law_supply" "_law_supply" (defArgs sSupply) (defBody sSupply) (defScope sSupply) .none kVdU dcdU pmdU andU cddU ctdU), sldU⟩) (cdU : PySem.W.codeIn K cddU "_law_supply" = true) (kdU : PySem.W.keepIn K (.ref fdU) = true)
    (adT : PySem.W.nsIn K mainGlobals "_law_take" = some (some (.ref fdT))) (ldT : K.lookup fdT = some ⟨ocdT, oddT, .func (PySem.W.fnOf "_law_take" "_law_take" (defArgs sTake) (defBody sTake) (defScope sTake) .none kVdT dcdT pmdT andT cddT ctdT), sldT⟩) (cdT : PySem.W.codeIn K cddT "_law_take" = true) (kdT : PySem.W.keepIn K (.ref fdT) = true)
    (adO : PySem.W.nsIn K mainGlobals "_law_one" = some (some (.ref fdO))) (ldO : K.lookup fdO = some ⟨ocdO, oddO, .func (PySem.W.fnOf "_law_one" "_law_one" (defArgs sOne) (defBody sOne) (defScope sOne) .none kVdO dcdO pmdO andO cddO ctdO), sldO⟩) (cdO : PySem.W.codeIn K cddO "_law_one" = true) (kdO : PySem.W.keepIn K (.ref fdO) = true)
    (adD : PySem.W.nsIn K mainGlobals "_law_odd" = some (some (.ref fdD))) (ldD : K.lookup fdD = some ⟨ocdD, oddD, .func (PySem.W.fnOf "_law_odd" "_law_odd" (defArgs sOdd) (defBody sOdd) (defScope sOdd) .none kVdD dcdD pmdD andD cddD ctdD), sldD⟩) (cdD : PySem.W.codeIn K cddD "_law_odd" = true) (kdD : PySem.W.keepIn K (.ref fdD) = true)
    (adP : PySem.W.nsIn K mainGlobals "_law_plain" = some (some (.ref fdP))) (ldP : K.lookup fdP = some ⟨ocdP, oddP, .func (PySem.W.fnOf "_law_plain" "_law_plain" (defArgs sPlain) (defBody sPlain) (defScope sPlain) .none kVdP dcdP pmdP andP cddP ctdP), sldP⟩) (cdP : PySem.W.codeIn K cddP "_law_plain" = true) (kdP : PySem.W.keepIn K (.ref fdP) = true)
    (adF : PySem.W.nsIn K mainGlobals "_law_filled" = some (some (.ref fdF))) (ldF : K.lookup fdF = some ⟨ocdF, oddF, .func (PySem.W.fnOf "_law_filled" "_law_filled" (defArgs sFilled) (defBody sFilled) (defScope sFilled) .none kVdF dcdF pmdF andF cddF ctdF), sldF⟩) (cdF : PySem.W.codeIn K cddF "_law_filled" = true) (kdF : PySem.W.keepIn K (.ref fdF) = true)
    (adA : PySem.W.nsIn K mainGlobals "_law_alone" = some (some (.ref fdA))) (ldA : K.lookup fdA = some ⟨ocdA, oddA, .func (PySem.W.fnOf "_law_alone" "_law_alone" (defArgs sAlone) (defBody sAlone) (defScope sAlone) .none kVdA dcdA pmdA andA cddA ctdA), sldA⟩) (cdA : PySem.W.codeIn K cddA "_law_alone" = true) (kdA : PySem.W.keepIn K (.ref fdA) = true)
    (adM : PySem.W.nsIn K mainGlobals "_law_made" = some (some (.ref fdM))) (ldM : K.lookup fdM = some ⟨ocdM, oddM, .func (PySem.W.fnOf "_law_made" "_law_made" (defArgs sMade) (defBody sMade) (defScope sMade) .none kVdM dcdM pmdM andM cddM ctdM), sldM⟩) (cdM : PySem.W.codeIn K cddM "_law_made" = true) (kdM : PySem.W.keepIn K (.ref fdM) = true)
    (aW : PySem.W.nsIn K mainGlobals "law" = some (some (.ref fW))) (lW : K.lookup fW = some ⟨ocW, odW, .func (PySem.W.fnOf "law" "law" (defArgs sLaw) (defBody sLaw) (defScope sLaw) .none kVW dcW pmW anW cdW ctW), slW⟩) (cW : PySem.W.codeIn K cdW "law" = true) (kW : PySem.W.keepIn K (.ref fW) = true)
    (zlen : PySem.W.nsIn K mainGlobals "len" = some none)
    (zabs : PySem.W.nsIn K mainGlobals "abs" = some none)
    (zran : PySem.W.nsIn K mainGlobals "range" = some none)
    (zrep : PySem.W.nsIn K mainGlobals "repr" = some none)
    (zisi : PySem.W.nsIn K mainGlobals "isinstance" = some none)
    (zenu : PySem.W.nsIn K mainGlobals "enumerate" = some none)
    (zval : PySem.W.nsIn K mainGlobals "ValueError" = some none)
    {c0 c1 c2 c3 c4 c5 c6 c7 c8 c9 c10 c11 c12 c13 c14 c15 c16 c17 R : Addr} {u0 u1 u2 u3 u4 u5 u6 u7 u8 u9 u10 u11 : Tok}
    (n0 : PySem.W.nsIn K mainGlobals "BadBatch" = some (some (.ref c0)))
    (n1 : PySem.W.nsIn K mainGlobals "BadLosses" = some (some (.ref c1)))
    (n2 : PySem.W.nsIn K mainGlobals "BadMarks" = some (some (.ref c2)))
    (n3 : PySem.W.nsIn K mainGlobals "Busy" = some (some (.ref c3)))
    (n4 : PySem.W.nsIn K mainGlobals "NothingToUndo" = some (some (.ref c4)))
    (n5 : PySem.W.nsIn K mainGlobals "TooManyActions" = some (some (.ref c5)))
    (n6 : PySem.W.nsIn K mainGlobals "BadRow" = some (some (.ref c6)))
    (n7 : PySem.W.nsIn K mainGlobals "BadText" = some (some (.ref c7)))
    (n8 : PySem.W.nsIn K mainGlobals "NoIndex" = some (some (.ref c8)))
    (n9 : PySem.W.nsIn K mainGlobals "NoKey" = some (some (.ref c9)))
    (n10 : PySem.W.nsIn K mainGlobals "NoPlace" = some (some (.ref c10)))
    (n11 : PySem.W.nsIn K mainGlobals "NoRounds" = some (some (.ref c11)))
    (n12 : PySem.W.nsIn K mainGlobals "NoThreshold" = some (some (.ref c12)))
    (n13 : PySem.W.nsIn K mainGlobals "NoVersion" = some (some (.ref c13)))
    (n14 : PySem.W.nsIn K mainGlobals "Rejected" = some (some (.ref c14)))
    (n15 : PySem.W.nsIn K mainGlobals "TooLong" = some (some (.ref c15)))
    (n16 : PySem.W.nsIn K mainGlobals "TooMany" = some (some (.ref c16)))
    (n17 : PySem.W.nsIn K mainGlobals "TooSlow" = some (some (.ref c17)))
    (nR : PySem.W.nsIn K mainGlobals "RowError" = some (some (.ref R)))
    (o0 : OexC K c0)
    (i0 : InitT K c0 "BadBatch.__init__" sInit0)
    (o1 : OexC K c1)
    (i1 : InitT K c1 "BadLosses.__init__" sInit1)
    (o2 : OexC K c2)
    (i2 : InitT K c2 "BadMarks.__init__" sInit2)
    (o3 : OexC K c3)
    (i3 : InitT K c3 "Busy.__init__" sInit3)
    (o4 : OexC K c4)
    (i4 : InitT K c4 "NothingToUndo.__init__" sInit4)
    (o5 : OexC K c5)
    (i5 : InitT K c5 "TooManyActions.__init__" sInit5)
    (o6 : OexC K c6)
    (i6 : InitT K c6 "BadRow.__init__" sInit6)
    (g6 : PySem.W.findIn K (.ref c6) "error" = some none)
    (o7 : OexC K c7)
    (i7 : InitT K c7 "BadText.__init__" sInit7)
    (g7 : PySem.W.findIn K (.ref c7) "index" = some none)
    (o8 : OexC K c8)
    (i8 : InitT K c8 "NoIndex.__init__" sInit8)
    (g8 : PySem.W.findIn K (.ref c8) "index" = some none)
    (o9 : OexC K c9)
    (i9 : InitT K c9 "NoKey.__init__" sInit9)
    (g9 : PySem.W.findIn K (.ref c9) "value" = some none)
    (o10 : OexC K c10)
    (i10 : InitT K c10 "NoPlace.__init__" sInit10)
    (g10 : PySem.W.findIn K (.ref c10) "value" = some none)
    (o11 : OexC K c11)
    (i11 : InitT K c11 "NoRounds.__init__" sInit11)
    (g11 : PySem.W.findIn K (.ref c11) "value" = some none)
    (o12 : OexC K c12)
    (i12 : InitT K c12 "NoThreshold.__init__" sInit12)
    (g12 : PySem.W.findIn K (.ref c12) "value" = some none)
    (o13 : OexC K c13)
    (i13 : InitT K c13 "NoVersion.__init__" sInit13)
    (g13 : PySem.W.findIn K (.ref c13) "version" = some none)
    (o14 : OexC K c14)
    (i14 : InitT K c14 "Rejected.__init__" sInit14)
    (g14 : PySem.W.findIn K (.ref c14) "index" = some none)
    (o15 : OexC K c15)
    (i15 : InitT K c15 "TooLong.__init__" sInit15)
    (g15 : PySem.W.findIn K (.ref c15) "limit" = some none)
    (o16 : OexC K c16)
    (i16 : InitT K c16 "TooMany.__init__" sInit16)
    (g16 : PySem.W.findIn K (.ref c16) "limit" = some none)
    (o17 : OexC K c17)
    (i17 : InitT K c17 "TooSlow.__init__" sInit17)
    (g17 : PySem.W.findIn K (.ref c17) "needed" = some none)
    (tt : AllT K R [c0, c1, c2, c3, c4, c5, c6, c7, c8, c9, c10, c11, c12, c13, c14, c15, c16, c17])
    (rr : AllRows K [c0, c1, c2, c3, c4, c5, c6, c7, c8, c9, c10, c11, c12, c13, c14, c15, c16, c17] 0 [c0, c1, c2, c3, c4, c5, c6, c7, c8, c9, c10, c11, c12, c13, c14, c15, c16, c17])
    (q0 : PySem.W.nsIn K mainGlobals "MAX_KEY" = some (some (.int 1000000000000 u0)))
    (q1 : PySem.W.nsIn K mainGlobals "MAX_PLACES" = some (some (.int 24 u1)))
    (q2 : PySem.W.nsIn K mainGlobals "MAX_ROUNDS" = some (some (.int 100 u2)))
    (q3 : PySem.W.nsIn K mainGlobals "LISTED" = some (some (.int 2000 u3)))
    (q4 : PySem.W.nsIn K mainGlobals "SMALL_PLACES" = some (some (.int 7 u4)))
    (q5 : PySem.W.nsIn K mainGlobals "MAX_RUNS" = some (some (.int 20 u5)))
    (q6 : PySem.W.nsIn K mainGlobals "MAX_LENGTH" = some (some (.int 1000000000000 u6)))
    (q7 : PySem.W.nsIn K mainGlobals "MAX_ACTIONS" = some (some (.int 60 u7)))
    (q8 : PySem.W.nsIn K mainGlobals "BATCH" = some (some (.int 20 u8)))
    (q9 : PySem.W.nsIn K mainGlobals "HISTORY" = some (some (.int 30 u9)))
    (q10 : PySem.W.nsIn K mainGlobals "COUNT_PLACES" = some (some (.int 12 u10)))
    (q11 : PySem.W.nsIn K mainGlobals "MAX_LOSSES" = some (some (.int 100 u11)))
    (hR : PySem.W.hasDictIn K R = true)
    (tR : PySem.W.typeIn K (.ref R) = some (.type "type"))
    : ∃ fd : FuncData, (∀ (s : Shared) (v : Value), BindsTo s fd ⟨[v], []⟩ [("_law_script", v)]) ∧ ∀ base : Heap, K.In base → base.Ns mainGlobals mg → FnOkG l.prog w K mg base CX0 4 fa fd ["_law_script"] (spLaw K) := by
  have e := hfa.symm.trans (PySem.W.mg_of X G aW)
  cases e
  have FdU := fun_mk (st := sSupply) ldU cdU kdU
  have mdU := PySem.W.mg_of X G adU
  have bdU := FdU.binds (ps := ["_law_script"]) fun _ _ _ _ _ _ us hl => match us, hl with | [_], _ => rfl
  have FdT := fun_mk (st := sTake) ldT cdT kdT
  have mdT := PySem.W.mg_of X G adT
  have bdT := FdT.binds (ps := ["_law_supply_here", "_law_many"]) fun _ _ _ _ _ _ us hl => match us, hl with | [_, _], _ => rfl
  have FdO := fun_mk (st := sOne) ldO cdO kdO
  have mdO := PySem.W.mg_of X G adO
  have bdO := FdO.binds (ps := ["_law_supply_here", "_law_items"]) fun _ _ _ _ _ _ us hl => match us, hl with | [_, _], _ => rfl
  have FdD := fun_mk (st := sOdd) ldD cdD kdD
  have mdD := PySem.W.mg_of X G adD
  have bdD := FdD.binds (ps := ["_law_supply_here"]) fun _ _ _ _ _ _ us hl => match us, hl with | [_], _ => rfl
  have FdP := fun_mk (st := sPlain) ldP cdP kdP
  have mdP := PySem.W.mg_of X G adP
  have bdP := FdP.binds (ps := ["_law_error"]) fun _ _ _ _ _ _ us hl => match us, hl with | [_], _ => rfl
  have FdF := fun_mk (st := sFilled) ldF cdF kdF
  have mdF := PySem.W.mg_of X G adF
  have bdF := FdF.binds (ps := ["_law_error"]) fun _ _ _ _ _ _ us hl => match us, hl with | [_], _ => rfl
  have FdA := fun_mk (st := sAlone) ldA cdA kdA
  have mdA := PySem.W.mg_of X G adA
  have bdA := FdA.binds (ps := ["_law_errors", "_law_others"]) fun _ _ _ _ _ _ us hl => match us, hl with | [_, _], _ => rfl
  have FdM := fun_mk (st := sMade) ldM cdM kdM
  have mdM := PySem.W.mg_of X G adM
  have bdM := FdM.binds (ps := ["_law_values"]) fun _ _ _ _ _ _ us hl => match us, hl with | [_], _ => rfl
  have FW := fun_mk (st := sLaw) lW cW kW
  have mW := PySem.W.mg_of X G aW
  have bW := FW.binds (ps := ["_law_script"]) fun _ _ _ _ _ _ us hl => match us, hl with | [_], _ => rfl
  have nlen := PySem.W.mg_none_of X G zlen
  have nabs := PySem.W.mg_none_of X G zabs
  have nran := PySem.W.mg_none_of X G zran
  have nrep := PySem.W.mg_none_of X G zrep
  have nisi := PySem.W.mg_none_of X G zisi
  have nenu := PySem.W.mg_none_of X G zenu
  have nval := PySem.W.mg_none_of X G zval
  refine ⟨PySem.W.fnOf "law" "law" (defArgs sLaw) (defBody sLaw) (defScope sLaw) .none kVW dcW pmW anW cdW ctW, fun s v => .of_eq rfl, fun base _ _ => ?_⟩
  have GT := ok_take (P := l.prog) (w := w) (base := base) FdT nlen
  have GU := ok_supply (P := l.prog) (w := w) (base := base) FdU nlen nabs
  have GO := ok_one (P := l.prog) (w := w) (base := base) FdO GT mdT kdT bdT nlen
  have GD := ok_odd (P := l.prog) (w := w) (base := base) FdD GO mdO kdO bdO
  have T : Txt K mg (fun i => ([c0, c1, c2, c3, c4, c5, c6, c7, c8, c9, c10, c11, c12, c13, c14, c15, c16, c17] : List Addr).getD i 0) R := ⟨PySem.W.mg_of X G n0, PySem.W.mg_of X G n1, PySem.W.mg_of X G n2, PySem.W.mg_of X G n3, PySem.W.mg_of X G n4, PySem.W.mg_of X G n5, PySem.W.mg_of X G n6, PySem.W.mg_of X G n7, PySem.W.mg_of X G n8, PySem.W.mg_of X G n9, PySem.W.mg_of X G n10, PySem.W.mg_of X G n11, PySem.W.mg_of X G n12, PySem.W.mg_of X G n13, PySem.W.mg_of X G n14, PySem.W.mg_of X G n15, PySem.W.mg_of X G n16, PySem.W.mg_of X G n17, PySem.W.mg_of X G nR, fun i hi => (allT_get i tt hi).er, fun i j hi hj => kit_all tt rr i j hi hj, fun i hi => (let t := allT_get i tt hi; kit_own hR tR t.sR t.nR), fun i hi => kit_base meta_VE (allT_get i tt hi).sV⟩
  have L : Lims mg := ⟨⟨_, PySem.W.mg_of X G q0⟩, ⟨_, PySem.W.mg_of X G q1⟩, ⟨_, PySem.W.mg_of X G q2⟩, ⟨_, PySem.W.mg_of X G q3⟩, ⟨_, PySem.W.mg_of X G q4⟩, ⟨_, PySem.W.mg_of X G q5⟩, ⟨_, PySem.W.mg_of X G q6⟩, ⟨_, PySem.W.mg_of X G q7⟩, ⟨_, PySem.W.mg_of X G q8⟩, ⟨_, PySem.W.mg_of X G q9⟩, ⟨_, PySem.W.mg_of X G q10⟩, ⟨_, PySem.W.mg_of X G q11⟩⟩
  obtain ⟨J0, e0, iC0, tI0, FI0⟩ := i0
  have M0 : Mk0 l.prog w K mg base c0 := ⟨o0, ⟨J0, e0, iC0, tI0, ok_init0 FI0, FI0.binds (ps := ["self"]) fun _ _ _ _ _ _ us hl => match us, hl with | [_], _ => rfl⟩⟩
  obtain ⟨J1, e1, iC1, tI1, FI1⟩ := i1
  have M1 : Mk0 l.prog w K mg base c1 := ⟨o1, ⟨J1, e1, iC1, tI1, ok_init1 FI1, FI1.binds (ps := ["self"]) fun _ _ _ _ _ _ us hl => match us, hl with | [_], _ => rfl⟩⟩
  obtain ⟨J2, e2, iC2, tI2, FI2⟩ := i2
  have M2 : Mk0 l.prog w K mg base c2 := ⟨o2, ⟨J2, e2, iC2, tI2, ok_init2 FI2, FI2.binds (ps := ["self"]) fun _ _ _ _ _ _ us hl => match us, hl with | [_], _ => rfl⟩⟩
  obtain ⟨J3, e3, iC3, tI3, FI3⟩ := i3
  have M3 : Mk0 l.prog w K mg base c3 := ⟨o3, ⟨J3, e3, iC3, tI3, ok_init3 FI3, FI3.binds (ps := ["self"]) fun _ _ _ _ _ _ us hl => match us, hl with | [_], _ => rfl⟩⟩
  obtain ⟨J4, e4, iC4, tI4, FI4⟩ := i4
  have M4 : Mk0 l.prog w K mg base c4 := ⟨o4, ⟨J4, e4, iC4, tI4, ok_init4 FI4, FI4.binds (ps := ["self"]) fun _ _ _ _ _ _ us hl => match us, hl with | [_], _ => rfl⟩⟩
  obtain ⟨J5, e5, iC5, tI5, FI5⟩ := i5
  have M5 : Mk0 l.prog w K mg base c5 := ⟨o5, ⟨J5, e5, iC5, tI5, ok_init5 FI5, FI5.binds (ps := ["self"]) fun _ _ _ _ _ _ us hl => match us, hl with | [_], _ => rfl⟩⟩
  obtain ⟨J6, e6, iC6, tI6, FI6⟩ := i6
  have M6 : Mk1 l.prog w K mg base c6 "error" := ⟨o6, ⟨J6, e6, iC6, tI6, ok_init6 FI6 o6 g6, FI6.binds (ps := ["self", "error"]) fun _ _ _ _ _ _ us hl => match us, hl with | [_, _], _ => rfl⟩, (allT_get 6 tt (by show 6 < 18; decide)).xf, g6⟩
  obtain ⟨J7, e7, iC7, tI7, FI7⟩ := i7
  have M7 : Mk1 l.prog w K mg base c7 "index" := ⟨o7, ⟨J7, e7, iC7, tI7, ok_init7 FI7 o7 g7, FI7.binds (ps := ["self", "index"]) fun _ _ _ _ _ _ us hl => match us, hl with | [_, _], _ => rfl⟩, (allT_get 7 tt (by show 7 < 18; decide)).xf, g7⟩
  obtain ⟨J8, e8, iC8, tI8, FI8⟩ := i8
  have M8 : Mk1 l.prog w K mg base c8 "index" := ⟨o8, ⟨J8, e8, iC8, tI8, ok_init8 FI8 o8 g8, FI8.binds (ps := ["self", "index"]) fun _ _ _ _ _ _ us hl => match us, hl with | [_, _], _ => rfl⟩, (allT_get 8 tt (by show 8 < 18; decide)).xf, g8⟩
  obtain ⟨J9, e9, iC9, tI9, FI9⟩ := i9
  have M9 : Mk1 l.prog w K mg base c9 "value" := ⟨o9, ⟨J9, e9, iC9, tI9, ok_init9 FI9 o9 g9, FI9.binds (ps := ["self", "value"]) fun _ _ _ _ _ _ us hl => match us, hl with | [_, _], _ => rfl⟩, (allT_get 9 tt (by show 9 < 18; decide)).xf, g9⟩
  obtain ⟨J10, e10, iC10, tI10, FI10⟩ := i10
  have M10 : Mk1 l.prog w K mg base c10 "value" := ⟨o10, ⟨J10, e10, iC10, tI10, ok_init10 FI10 o10 g10, FI10.binds (ps := ["self", "value"]) fun _ _ _ _ _ _ us hl => match us, hl with | [_, _], _ => rfl⟩, (allT_get 10 tt (by show 10 < 18; decide)).xf, g10⟩
  obtain ⟨J11, e11, iC11, tI11, FI11⟩ := i11
  have M11 : Mk1 l.prog w K mg base c11 "value" := ⟨o11, ⟨J11, e11, iC11, tI11, ok_init11 FI11 o11 g11, FI11.binds (ps := ["self", "value"]) fun _ _ _ _ _ _ us hl => match us, hl with | [_, _], _ => rfl⟩, (allT_get 11 tt (by show 11 < 18; decide)).xf, g11⟩
  obtain ⟨J12, e12, iC12, tI12, FI12⟩ := i12
  have M12 : Mk1 l.prog w K mg base c12 "value" := ⟨o12, ⟨J12, e12, iC12, tI12, ok_init12 FI12 o12 g12, FI12.binds (ps := ["self", "value"]) fun _ _ _ _ _ _ us hl => match us, hl with | [_, _], _ => rfl⟩, (allT_get 12 tt (by show 12 < 18; decide)).xf, g12⟩
  obtain ⟨J13, e13, iC13, tI13, FI13⟩ := i13
  have M13 : Mk1 l.prog w K mg base c13 "version" := ⟨o13, ⟨J13, e13, iC13, tI13, ok_init13 FI13 o13 g13, FI13.binds (ps := ["self", "version"]) fun _ _ _ _ _ _ us hl => match us, hl with | [_, _], _ => rfl⟩, (allT_get 13 tt (by show 13 < 18; decide)).xf, g13⟩
  obtain ⟨J14, e14, iC14, tI14, FI14⟩ := i14
  have M14 : Mk1 l.prog w K mg base c14 "index" := ⟨o14, ⟨J14, e14, iC14, tI14, ok_init14 FI14 o14 g14, FI14.binds (ps := ["self", "index"]) fun _ _ _ _ _ _ us hl => match us, hl with | [_, _], _ => rfl⟩, (allT_get 14 tt (by show 14 < 18; decide)).xf, g14⟩
  obtain ⟨J15, e15, iC15, tI15, FI15⟩ := i15
  have M15 : Mk1 l.prog w K mg base c15 "limit" := ⟨o15, ⟨J15, e15, iC15, tI15, ok_init15 FI15 o15 g15, FI15.binds (ps := ["self", "limit"]) fun _ _ _ _ _ _ us hl => match us, hl with | [_, _], _ => rfl⟩, (allT_get 15 tt (by show 15 < 18; decide)).xf, g15⟩
  obtain ⟨J16, e16, iC16, tI16, FI16⟩ := i16
  have M16 : Mk1 l.prog w K mg base c16 "limit" := ⟨o16, ⟨J16, e16, iC16, tI16, ok_init16 FI16 o16 g16, FI16.binds (ps := ["self", "limit"]) fun _ _ _ _ _ _ us hl => match us, hl with | [_, _], _ => rfl⟩, (allT_get 16 tt (by show 16 < 18; decide)).xf, g16⟩
  obtain ⟨J17, e17, iC17, tI17, FI17⟩ := i17
  have M17 : Mk1 l.prog w K mg base c17 "needed" := ⟨o17, ⟨J17, e17, iC17, tI17, ok_init17 FI17 o17 g17, FI17.binds (ps := ["self", "needed"]) fun _ _ _ _ _ _ us hl => match us, hl with | [_, _], _ => rfl⟩, (allT_get 17 tt (by show 17 < 18; decide)).xf, g17⟩
  have GP := ok_plain (P := l.prog) (w := w) (base := base) FdP T nisi nran
  have GF := ok_filled (P := l.prog) (w := w) (base := base) FdF T nisi nran
  have GA := ok_alone (P := l.prog) (w := w) (base := base) FdA T GP mdP kdP bdP GF mdF kdF bdF nisi nenu nval
  have GM := ok_made (P := l.prog) (w := w) (base := base) FdM T M6 M7 M8 M9 M10 M11 M12 M13 M14 M15 M16 M17
  exact ok_law FW T L GU mdU kdU bdU GD mdD kdD bdD GM mdM kdM bdM GA mdA kdA bdA M0 M1 M2 M3 M4 M5 nran nrep
end
end LW
open PySem PySem.W PyProof.Rows
set_option maxRecDepth 100000 in
set_option maxHeartbeats 0 in
theorem PySem.Challenge.cw_oddrounds_k01_limits_and_errors_holds : PySem.Challenge.rw_oddrounds_k01_limits_and_errors.Holds := by
  w_on; o_law; k_head; (case hw => w_witness2)
  k_fill
  refine KX.walkG (l := PySem.Challenge.rw_oddrounds_k01_limits_and_errors) (n := 63) (k := 4) (x := "_law_script") (sp := LW.spLaw) rfl (by decide) rfl ⟨rfl, by decide, by decide⟩ (fun w h Y => PySem.W.kIn_of Y) ?F (fun _ _ a ns hl _ hS => ⟨a, ns, rfl, hS, hl, fun _ => rfl⟩)
  case F =>
    intro w mg fa h KX G hmg
    refine' LW.all_mk KX G hmg ?adU ?ldU ?cdU ?kdU ?adT ?ldT ?cdT ?kdT ?adO ?ldO ?cdO ?kdO ?adD ?ldD ?cdD ?kdD ?adP ?ldP ?cdP ?kdP ?adF ?ldF ?cdF ?kdF ?adA ?ldA ?cdA ?kdA ?adM ?ldM ?cdM ?kdM ?aW ?lW ?cW ?kW ?zlen ?zabs ?zran ?zrep ?zisi ?zenu ?zval ?n0 ?n1 ?n2 ?n3 ?n4 ?n5 ?n6 ?n7 ?n8 ?n9 ?n10 ?n11 ?n12 ?n13 ?n14 ?n15 ?n16 ?n17 ?nR ?o0 ?i0 ?o1 ?i1 ?o2 ?i2 ?o3 ?i3 ?o4 ?i4 ?o5 ?i5 ?o6 ?i6 ?g6 ?o7 ?i7 ?g7 ?o8 ?i8 ?g8 ?o9 ?i9 ?g9 ?o10 ?i10 ?g10 ?o11 ?i11 ?g11 ?o12 ?i12 ?g12 ?o13 ?i13 ?g13 ?o14 ?i14 ?g14 ?o15 ?i15 ?g15 ?o16 ?i16 ?g16 ?o17 ?i17 ?g17 ?tt ?rr ?q0 ?q1 ?q2 ?q3 ?q4 ?q5 ?q6 ?q7 ?q8 ?q9 ?q10 ?q11 ?hR ?tR
    (case adU => k_is); (case ldU => k_is); (case cdU => k_is); (case kdU => k_is); (case adT => k_is); (case ldT => k_is)
    (case cdT => k_is); (case kdT => k_is); (case adO => k_is); (case ldO => k_is); (case cdO => k_is); (case kdO => k_is)
    (case adD => k_is); (case ldD => k_is); (case cdD => k_is); (case kdD => k_is); (case adP => k_is); (case ldP => k_is)
    (case cdP => k_is); (case kdP => k_is); (case adF => k_is); (case ldF => k_is); (case cdF => k_is); (case kdF => k_is)
    (case adA => k_is); (case ldA => k_is); (case cdA => k_is); (case kdA => k_is); (case adM => k_is); (case ldM => k_is)
    (case cdM => k_is); (case kdM => k_is); (case aW => k_is); (case lW => k_is); (case cW => k_is); (case kW => k_is)
    (case zlen => k_is); (case zabs => k_is); (case zran => k_is); (case zrep => k_is); (case zisi => k_is); (case zenu => k_is)
    (case zval => k_is)
    (case n0 => k_is)
    (case n1 => k_is)
    (case n2 => k_is)
    (case n3 => k_is)
    (case n4 => k_is)
    (case n5 => k_is)
    (case n6 => k_is)
    (case n7 => k_is)
    (case n8 => k_is)
    (case n9 => k_is)
    (case n10 => k_is)
    (case n11 => k_is)
    (case n12 => k_is)
    (case n13 => k_is)
    (case n14 => k_is)
    (case n15 => k_is)
    (case n16 => k_is)
    (case n17 => k_is)
    (case nR => k_is)
    (case o0 => refine' LW.oex_mk ?l ?r ?a ?b ?c ?d; (case l => k_is); (case r => decide +kernel); (case a => k_is); (case b => k_is); (case c => k_is); (case d => k_is))
    (case i0 => refine' LW.init_mk ?a ?b ?c ?d ?e; (case a => k_is); (case b => k_is); (case c => k_is); (case d => k_is); (case e => k_is))
    (case o1 => refine' LW.oex_mk ?l ?r ?a ?b ?c ?d; (case l => k_is); (case r => decide +kernel); (case a => k_is); (case b => k_is); (case c => k_is); (case d => k_is))
    (case i1 => refine' LW.init_mk ?a ?b ?c ?d ?e; (case a => k_is); (case b => k_is); (case c => k_is); (case d => k_is); (case e => k_is))
    (case o2 => refine' LW.oex_mk ?l ?r ?a ?b ?c ?d; (case l => k_is); (case r => decide +kernel); (case a => k_is); (case b => k_is); (case c => k_is); (case d => k_is))
    (case i2 => refine' LW.init_mk ?a ?b ?c ?d ?e; (case a => k_is); (case b => k_is); (case c => k_is); (case d => k_is); (case e => k_is))
    (case o3 => refine' LW.oex_mk ?l ?r ?a ?b ?c ?d; (case l => k_is); (case r => decide +kernel); (case a => k_is); (case b => k_is); (case c => k_is); (case d => k_is))
    (case i3 => refine' LW.init_mk ?a ?b ?c ?d ?e; (case a => k_is); (case b => k_is); (case c => k_is); (case d => k_is); (case e => k_is))
    (case o4 => refine' LW.oex_mk ?l ?r ?a ?b ?c ?d; (case l => k_is); (case r => decide +kernel); (case a => k_is); (case b => k_is); (case c => k_is); (case d => k_is))
    (case i4 => refine' LW.init_mk ?a ?b ?c ?d ?e; (case a => k_is); (case b => k_is); (case c => k_is); (case d => k_is); (case e => k_is))
    (case o5 => refine' LW.oex_mk ?l ?r ?a ?b ?c ?d; (case l => k_is); (case r => decide +kernel); (case a => k_is); (case b => k_is); (case c => k_is); (case d => k_is))
    (case i5 => refine' LW.init_mk ?a ?b ?c ?d ?e; (case a => k_is); (case b => k_is); (case c => k_is); (case d => k_is); (case e => k_is))
    (case o6 => refine' LW.oex_mk ?l ?r ?a ?b ?c ?d; (case l => k_is); (case r => decide +kernel); (case a => k_is); (case b => k_is); (case c => k_is); (case d => k_is))
    (case i6 => refine' LW.init_mk ?a ?b ?c ?d ?e; (case a => k_is); (case b => k_is); (case c => k_is); (case d => k_is); (case e => k_is))
    (case g6 => k_is)
    (case o7 => refine' LW.oex_mk ?l ?r ?a ?b ?c ?d; (case l => k_is); (case r => decide +kernel); (case a => k_is); (case b => k_is); (case c => k_is); (case d => k_is))
    (case i7 => refine' LW.init_mk ?a ?b ?c ?d ?e; (case a => k_is); (case b => k_is); (case c => k_is); (case d => k_is); (case e => k_is))
    (case g7 => k_is)
    (case o8 => refine' LW.oex_mk ?l ?r ?a ?b ?c ?d; (case l => k_is); (case r => decide +kernel); (case a => k_is); (case b => k_is); (case c => k_is); (case d => k_is))
    (case i8 => refine' LW.init_mk ?a ?b ?c ?d ?e; (case a => k_is); (case b => k_is); (case c => k_is); (case d => k_is); (case e => k_is))
    (case g8 => k_is)
    (case o9 => refine' LW.oex_mk ?l ?r ?a ?b ?c ?d; (case l => k_is); (case r => decide +kernel); (case a => k_is); (case b => k_is); (case c => k_is); (case d => k_is))
    (case i9 => refine' LW.init_mk ?a ?b ?c ?d ?e; (case a => k_is); (case b => k_is); (case c => k_is); (case d => k_is); (case e => k_is))
    (case g9 => k_is)
    (case o10 => refine' LW.oex_mk ?l ?r ?a ?b ?c ?d; (case l => k_is); (case r => decide +kernel); (case a => k_is); (case b => k_is); (case c => k_is); (case d => k_is))
    (case i10 => refine' LW.init_mk ?a ?b ?c ?d ?e; (case a => k_is); (case b => k_is); (case c => k_is); (case d => k_is); (case e => k_is))
    (case g10 => k_is)
    (case o11 => refine' LW.oex_mk ?l ?r ?a ?b ?c ?d; (case l => k_is); (case r => decide +kernel); (case a => k_is); (case b => k_is); (case c => k_is); (case d => k_is))
    (case i11 => refine' LW.init_mk ?a ?b ?c ?d ?e; (case a => k_is); (case b => k_is); (case c => k_is); (case d => k_is); (case e => k_is))
    (case g11 => k_is)
    (case o12 => refine' LW.oex_mk ?l ?r ?a ?b ?c ?d; (case l => k_is); (case r => decide +kernel); (case a => k_is); (case b => k_is); (case c => k_is); (case d => k_is))
    (case i12 => refine' LW.init_mk ?a ?b ?c ?d ?e; (case a => k_is); (case b => k_is); (case c => k_is); (case d => k_is); (case e => k_is))
    (case g12 => k_is)
    (case o13 => refine' LW.oex_mk ?l ?r ?a ?b ?c ?d; (case l => k_is); (case r => decide +kernel); (case a => k_is); (case b => k_is); (case c => k_is); (case d => k_is))
    (case i13 => refine' LW.init_mk ?a ?b ?c ?d ?e; (case a => k_is); (case b => k_is); (case c => k_is); (case d => k_is); (case e => k_is))
    (case g13 => k_is)
    (case o14 => refine' LW.oex_mk ?l ?r ?a ?b ?c ?d; (case l => k_is); (case r => decide +kernel); (case a => k_is); (case b => k_is); (case c => k_is); (case d => k_is))
    (case i14 => refine' LW.init_mk ?a ?b ?c ?d ?e; (case a => k_is); (case b => k_is); (case c => k_is); (case d => k_is); (case e => k_is))
    (case g14 => k_is)
    (case o15 => refine' LW.oex_mk ?l ?r ?a ?b ?c ?d; (case l => k_is); (case r => decide +kernel); (case a => k_is); (case b => k_is); (case c => k_is); (case d => k_is))
    (case i15 => refine' LW.init_mk ?a ?b ?c ?d ?e; (case a => k_is); (case b => k_is); (case c => k_is); (case d => k_is); (case e => k_is))
    (case g15 => k_is)
    (case o16 => refine' LW.oex_mk ?l ?r ?a ?b ?c ?d; (case l => k_is); (case r => decide +kernel); (case a => k_is); (case b => k_is); (case c => k_is); (case d => k_is))
    (case i16 => refine' LW.init_mk ?a ?b ?c ?d ?e; (case a => k_is); (case b => k_is); (case c => k_is); (case d => k_is); (case e => k_is))
    (case g16 => k_is)
    (case o17 => refine' LW.oex_mk ?l ?r ?a ?b ?c ?d; (case l => k_is); (case r => decide +kernel); (case a => k_is); (case b => k_is); (case c => k_is); (case d => k_is))
    (case i17 => refine' LW.init_mk ?a ?b ?c ?d ?e; (case a => k_is); (case b => k_is); (case c => k_is); (case d => k_is); (case e => k_is))
    (case g17 => k_is)
    (case tt => exact ⟨⟨by k_is, by k_is, by k_is, by k_is, by k_is, by k_is, by k_is, by k_is, by k_is, by k_is, by k_is, by decide⟩, ⟨by k_is, by k_is, by k_is, by k_is, by k_is, by k_is, by k_is, by k_is, by k_is, by k_is, by k_is, by decide⟩, ⟨by k_is, by k_is, by k_is, by k_is, by k_is, by k_is, by k_is, by k_is, by k_is, by k_is, by k_is, by decide⟩, ⟨by k_is, by k_is, by k_is, by k_is, by k_is, by k_is, by k_is, by k_is, by k_is, by k_is, by k_is, by decide⟩, ⟨by k_is, by k_is, by k_is, by k_is, by k_is, by k_is, by k_is, by k_is, by k_is, by k_is, by k_is, by decide⟩, ⟨by k_is, by k_is, by k_is, by k_is, by k_is, by k_is, by k_is, by k_is, by k_is, by k_is, by k_is, by decide⟩, ⟨by k_is, by k_is, by k_is, by k_is, by k_is, by k_is, by k_is, by k_is, by k_is, by k_is, by k_is, by decide⟩, ⟨by k_is, by k_is, by k_is, by k_is, by k_is, by k_is, by k_is, by k_is, by k_is, by k_is, by k_is, by decide⟩, ⟨by k_is, by k_is, by k_is, by k_is, by k_is, by k_is, by k_is, by k_is, by k_is, by k_is, by k_is, by decide⟩, ⟨by k_is, by k_is, by k_is, by k_is, by k_is, by k_is, by k_is, by k_is, by k_is, by k_is, by k_is, by decide⟩, ⟨by k_is, by k_is, by k_is, by k_is, by k_is, by k_is, by k_is, by k_is, by k_is, by k_is, by k_is, by decide⟩, ⟨by k_is, by k_is, by k_is, by k_is, by k_is, by k_is, by k_is, by k_is, by k_is, by k_is, by k_is, by decide⟩, ⟨by k_is, by k_is, by k_is, by k_is, by k_is, by k_is, by k_is, by k_is, by k_is, by k_is, by k_is, by decide⟩, ⟨by k_is, by k_is, by k_is, by k_is, by k_is, by k_is, by k_is, by k_is, by k_is, by k_is, by k_is, by decide⟩, ⟨by k_is, by k_is, by k_is, by k_is, by k_is, by k_is, by k_is, by k_is, by k_is, by k_is, by k_is, by decide⟩, ⟨by k_is, by k_is, by k_is, by k_is, by k_is, by k_is, by k_is, by k_is, by k_is, by k_is, by k_is, by decide⟩, ⟨by k_is, by k_is, by k_is, by k_is, by k_is, by k_is, by k_is, by k_is, by k_is, by k_is, by k_is, by decide⟩, ⟨by k_is, by k_is, by k_is, by k_is, by k_is, by k_is, by k_is, by k_is, by k_is, by k_is, by k_is, by decide⟩, trivial⟩)
    (case rr => exact ⟨⟨.inl rfl, .inr ⟨by k_is, by decide⟩, .inr ⟨by k_is, by decide⟩, .inr ⟨by k_is, by decide⟩, .inr ⟨by k_is, by decide⟩, .inr ⟨by k_is, by decide⟩, .inr ⟨by k_is, by decide⟩, .inr ⟨by k_is, by decide⟩, .inr ⟨by k_is, by decide⟩, .inr ⟨by k_is, by decide⟩, .inr ⟨by k_is, by decide⟩, .inr ⟨by k_is, by decide⟩, .inr ⟨by k_is, by decide⟩, .inr ⟨by k_is, by decide⟩, .inr ⟨by k_is, by decide⟩, .inr ⟨by k_is, by decide⟩, .inr ⟨by k_is, by decide⟩, .inr ⟨by k_is, by decide⟩, trivial⟩, ⟨.inr ⟨by k_is, by decide⟩, .inl rfl, .inr ⟨by k_is, by decide⟩, .inr ⟨by k_is, by decide⟩, .inr ⟨by k_is, by decide⟩, .inr ⟨by k_is, by decide⟩, .inr ⟨by k_is, by decide⟩, .inr ⟨by k_is, by decide⟩, .inr ⟨by k_is, by decide⟩, .inr ⟨by k_is, by decide⟩, .inr ⟨by k_is, by decide⟩, .inr ⟨by k_is, by decide⟩, .inr ⟨by k_is, by decide⟩, .inr ⟨by k_is, by decide⟩, .inr ⟨by k_is, by decide⟩, .inr ⟨by k_is, by decide⟩, .inr ⟨by k_is, by decide⟩, .inr ⟨by k_is, by decide⟩, trivial⟩, ⟨.inr ⟨by k_is, by decide⟩, .inr ⟨by k_is, by decide⟩, .inl rfl, .inr ⟨by k_is, by decide⟩, .inr ⟨by k_is, by decide⟩, .inr ⟨by k_is, by decide⟩, .inr ⟨by k_is, by decide⟩, .inr ⟨by k_is, by decide⟩, .inr ⟨by k_is, by decide⟩, .inr ⟨by k_is, by decide⟩, .inr ⟨by k_is, by decide⟩, .inr ⟨by k_is, by decide⟩, .inr ⟨by k_is, by decide⟩, .inr ⟨by k_is, by decide⟩, .inr ⟨by k_is, by decide⟩, .inr ⟨by k_is, by decide⟩, .inr ⟨by k_is, by decide⟩, .inr ⟨by k_is, by decide⟩, trivial⟩, ⟨.inr ⟨by k_is, by decide⟩, .inr ⟨by k_is, by decide⟩, .inr ⟨by k_is, by decide⟩, .inl rfl, .inr ⟨by k_is, by decide⟩, .inr ⟨by k_is, by decide⟩, .inr ⟨by k_is, by decide⟩, .inr ⟨by k_is, by decide⟩, .inr ⟨by k_is, by decide⟩, .inr ⟨by k_is, by decide⟩, .inr ⟨by k_is, by decide⟩, .inr ⟨by k_is, by decide⟩, .inr ⟨by k_is, by decide⟩, .inr ⟨by k_is, by decide⟩, .inr ⟨by k_is, by decide⟩, .inr ⟨by k_is, by decide⟩, .inr ⟨by k_is, by decide⟩, .inr ⟨by k_is, by decide⟩, trivial⟩, ⟨.inr ⟨by k_is, by decide⟩, .inr ⟨by k_is, by decide⟩, .inr ⟨by k_is, by decide⟩, .inr ⟨by k_is, by decide⟩, .inl rfl, .inr ⟨by k_is, by decide⟩, .inr ⟨by k_is, by decide⟩, .inr ⟨by k_is, by decide⟩, .inr ⟨by k_is, by decide⟩, .inr ⟨by k_is, by decide⟩, .inr ⟨by k_is, by decide⟩, .inr ⟨by k_is, by decide⟩, .inr ⟨by k_is, by decide⟩, .inr ⟨by k_is, by decide⟩, .inr ⟨by k_is, by decide⟩, .inr ⟨by k_is, by decide⟩, .inr ⟨by k_is, by decide⟩, .inr ⟨by k_is, by decide⟩, trivial⟩, ⟨.inr ⟨by k_is, by decide⟩, .inr ⟨by k_is, by decide⟩, .inr ⟨by k_is, by decide⟩, .inr ⟨by k_is, by decide⟩, .inr ⟨by k_is, by decide⟩, .inl rfl, .inr ⟨by k_is, by decide⟩, .inr ⟨by k_is, by decide⟩, .inr ⟨by k_is, by decide⟩, .inr ⟨by k_is, by decide⟩, .inr ⟨by k_is, by decide⟩, .inr ⟨by k_is, by decide⟩, .inr ⟨by k_is, by decide⟩, .inr ⟨by k_is, by decide⟩, .inr ⟨by k_is, by decide⟩, .inr ⟨by k_is, by decide⟩, .inr ⟨by k_is, by decide⟩, .inr ⟨by k_is, by decide⟩, trivial⟩, ⟨.inr ⟨by k_is, by decide⟩, .inr ⟨by k_is, by decide⟩, .inr ⟨by k_is, by decide⟩, .inr ⟨by k_is, by decide⟩, .inr ⟨by k_is, by decide⟩, .inr ⟨by k_is, by decide⟩, .inl rfl, .inr ⟨by k_is, by decide⟩, .inr ⟨by k_is, by decide⟩, .inr ⟨by k_is, by decide⟩, .inr ⟨by k_is, by decide⟩, .inr ⟨by k_is, by decide⟩, .inr ⟨by k_is, by decide⟩, .inr ⟨by k_is, by decide⟩, .inr ⟨by k_is, by decide⟩, .inr ⟨by k_is, by decide⟩, .inr ⟨by k_is, by decide⟩, .inr ⟨by k_is, by decide⟩, trivial⟩, ⟨.inr ⟨by k_is, by decide⟩, .inr ⟨by k_is, by decide⟩, .inr ⟨by k_is, by decide⟩, .inr ⟨by k_is, by decide⟩, .inr ⟨by k_is, by decide⟩, .inr ⟨by k_is, by decide⟩, .inr ⟨by k_is, by decide⟩, .inl rfl, .inr ⟨by k_is, by decide⟩, .inr ⟨by k_is, by decide⟩, .inr ⟨by k_is, by decide⟩, .inr ⟨by k_is, by decide⟩, .inr ⟨by k_is, by decide⟩, .inr ⟨by k_is, by decide⟩, .inr ⟨by k_is, by decide⟩, .inr ⟨by k_is, by decide⟩, .inr ⟨by k_is, by decide⟩, .inr ⟨by k_is, by decide⟩, trivial⟩, ⟨.inr ⟨by k_is, by decide⟩, .inr ⟨by k_is, by decide⟩, .inr ⟨by k_is, by decide⟩, .inr ⟨by k_is, by decide⟩, .inr ⟨by k_is, by decide⟩, .inr ⟨by k_is, by decide⟩, .inr ⟨by k_is, by decide⟩, .inr ⟨by k_is, by decide⟩, .inl rfl, .inr ⟨by k_is, by decide⟩, .inr ⟨by k_is, by decide⟩, .inr ⟨by k_is, by decide⟩, .inr ⟨by k_is, by decide⟩, .inr ⟨by k_is, by decide⟩, .inr ⟨by k_is, by decide⟩, .inr ⟨by k_is, by decide⟩, .inr ⟨by k_is, by decide⟩, .inr ⟨by k_is, by decide⟩, trivial⟩, ⟨.inr ⟨by k_is, by decide⟩, .inr ⟨by k_is, by decide⟩, .inr ⟨by k_is, by decide⟩, .inr ⟨by k_is, by decide⟩, .inr ⟨by k_is, by decide⟩, .inr ⟨by k_is, by decide⟩, .inr ⟨by k_is, by decide⟩, .inr ⟨by k_is, by decide⟩, .inr ⟨by k_is, by decide⟩, .inl rfl, .inr ⟨by k_is, by decide⟩, .inr ⟨by k_is, by decide⟩, .inr ⟨by k_is, by decide⟩, .inr ⟨by k_is, by decide⟩, .inr ⟨by k_is, by decide⟩, .inr ⟨by k_is, by decide⟩, .inr ⟨by k_is, by decide⟩, .inr ⟨by k_is, by decide⟩, trivial⟩, ⟨.inr ⟨by k_is, by decide⟩, .inr ⟨by k_is, by decide⟩, .inr ⟨by k_is, by decide⟩, .inr ⟨by k_is, by decide⟩, .inr ⟨by k_is, by decide⟩, .inr ⟨by k_is, by decide⟩, .inr ⟨by k_is, by decide⟩, .inr ⟨by k_is, by decide⟩, .inr ⟨by k_is, by decide⟩, .inr ⟨by k_is, by decide⟩, .inl rfl, .inr ⟨by k_is, by decide⟩, .inr ⟨by k_is, by decide⟩, .inr ⟨by k_is, by decide⟩, .inr ⟨by k_is, by decide⟩, .inr ⟨by k_is, by decide⟩, .inr ⟨by k_is, by decide⟩, .inr ⟨by k_is, by decide⟩, trivial⟩, ⟨.inr ⟨by k_is, by decide⟩, .inr ⟨by k_is, by decide⟩, .inr ⟨by k_is, by decide⟩, .inr ⟨by k_is, by decide⟩, .inr ⟨by k_is, by decide⟩, .inr ⟨by k_is, by decide⟩, .inr ⟨by k_is, by decide⟩, .inr ⟨by k_is, by decide⟩, .inr ⟨by k_is, by decide⟩, .inr ⟨by k_is, by decide⟩, .inr ⟨by k_is, by decide⟩, .inl rfl, .inr ⟨by k_is, by decide⟩, .inr ⟨by k_is, by decide⟩, .inr ⟨by k_is, by decide⟩, .inr ⟨by k_is, by decide⟩, .inr ⟨by k_is, by decide⟩, .inr ⟨by k_is, by decide⟩, trivial⟩, ⟨.inr ⟨by k_is, by decide⟩, .inr ⟨by k_is, by decide⟩, .inr ⟨by k_is, by decide⟩, .inr ⟨by k_is, by decide⟩, .inr ⟨by k_is, by decide⟩, .inr ⟨by k_is, by decide⟩, .inr ⟨by k_is, by decide⟩, .inr ⟨by k_is, by decide⟩, .inr ⟨by k_is, by decide⟩, .inr ⟨by k_is, by decide⟩, .inr ⟨by k_is, by decide⟩, .inr ⟨by k_is, by decide⟩, .inl rfl, .inr ⟨by k_is, by decide⟩, .inr ⟨by k_is, by decide⟩, .inr ⟨by k_is, by decide⟩, .inr ⟨by k_is, by decide⟩, .inr ⟨by k_is, by decide⟩, trivial⟩, ⟨.inr ⟨by k_is, by decide⟩, .inr ⟨by k_is, by decide⟩, .inr ⟨by k_is, by decide⟩, .inr ⟨by k_is, by decide⟩, .inr ⟨by k_is, by decide⟩, .inr ⟨by k_is, by decide⟩, .inr ⟨by k_is, by decide⟩, .inr ⟨by k_is, by decide⟩, .inr ⟨by k_is, by decide⟩, .inr ⟨by k_is, by decide⟩, .inr ⟨by k_is, by decide⟩, .inr ⟨by k_is, by decide⟩, .inr ⟨by k_is, by decide⟩, .inl rfl, .inr ⟨by k_is, by decide⟩, .inr ⟨by k_is, by decide⟩, .inr ⟨by k_is, by decide⟩, .inr ⟨by k_is, by decide⟩, trivial⟩, ⟨.inr ⟨by k_is, by decide⟩, .inr ⟨by k_is, by decide⟩, .inr ⟨by k_is, by decide⟩, .inr ⟨by k_is, by decide⟩, .inr ⟨by k_is, by decide⟩, .inr ⟨by k_is, by decide⟩, .inr ⟨by k_is, by decide⟩, .inr ⟨by k_is, by decide⟩, .inr ⟨by k_is, by decide⟩, .inr ⟨by k_is, by decide⟩, .inr ⟨by k_is, by decide⟩, .inr ⟨by k_is, by decide⟩, .inr ⟨by k_is, by decide⟩, .inr ⟨by k_is, by decide⟩, .inl rfl, .inr ⟨by k_is, by decide⟩, .inr ⟨by k_is, by decide⟩, .inr ⟨by k_is, by decide⟩, trivial⟩, ⟨.inr ⟨by k_is, by decide⟩, .inr ⟨by k_is, by decide⟩, .inr ⟨by k_is, by decide⟩, .inr ⟨by k_is, by decide⟩, .inr ⟨by k_is, by decide⟩, .inr ⟨by k_is, by decide⟩, .inr ⟨by k_is, by decide⟩, .inr ⟨by k_is, by decide⟩, .inr ⟨by k_is, by decide⟩, .inr ⟨by k_is, by decide⟩, .inr ⟨by k_is, by decide⟩, .inr ⟨by k_is, by decide⟩, .inr ⟨by k_is, by decide⟩, .inr ⟨by k_is, by decide⟩, .inr ⟨by k_is, by decide⟩, .inl rfl, .inr ⟨by k_is, by decide⟩, .inr ⟨by k_is, by decide⟩, trivial⟩, ⟨.inr ⟨by k_is, by decide⟩, .inr ⟨by k_is, by decide⟩, .inr ⟨by k_is, by decide⟩, .inr ⟨by k_is, by decide⟩, .inr ⟨by k_is, by decide⟩, .inr ⟨by k_is, by decide⟩, .inr ⟨by k_is, by decide⟩, .inr ⟨by k_is, by decide⟩, .inr ⟨by k_is, by decide⟩, .inr ⟨by k_is, by decide⟩, .inr ⟨by k_is, by decide⟩, .inr ⟨by k_is, by decide⟩, .inr ⟨by k_is, by decide⟩, .inr ⟨by k_is, by decide⟩, .inr ⟨by k_is, by decide⟩, .inr ⟨by k_is, by decide⟩, .inl rfl, .inr ⟨by k_is, by decide⟩, trivial⟩, ⟨.inr ⟨by k_is, by decide⟩, .inr ⟨by k_is, by decide⟩, .inr ⟨by k_is, by decide⟩, .inr ⟨by k_is, by decide⟩, .inr ⟨by k_is, by decide⟩, .inr ⟨by k_is, by decide⟩, .inr ⟨by k_is, by decide⟩, .inr ⟨by k_is, by decide⟩, .inr ⟨by k_is, by decide⟩, .inr ⟨by k_is, by decide⟩, .inr ⟨by k_is, by decide⟩, .inr ⟨by k_is, by decide⟩, .inr ⟨by k_is, by decide⟩, .inr ⟨by k_is, by decide⟩, .inr ⟨by k_is, by decide⟩, .inr ⟨by k_is, by decide⟩, .inr ⟨by k_is, by decide⟩, .inl rfl, trivial⟩, trivial⟩)
    (case q0 => k_is)
    (case q1 => k_is)
    (case q2 => k_is)
    (case q3 => k_is)
    (case q4 => k_is)
    (case q5 => k_is)
    (case q6 => k_is)
    (case q7 => k_is)
    (case q8 => k_is)
    (case q9 => k_is)
    (case q10 => k_is)
    (case q11 => k_is)
    (case hR => k_is)
    (case tR => k_is)
#print axioms PySem.Challenge.cw_oddrounds_k01_limits_and_errors_holds

