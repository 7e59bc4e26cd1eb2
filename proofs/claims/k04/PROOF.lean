import PyProof.Rows.All
import Wide.All
import OpenK.AllK
import Wide.FinOn
import HandS.ForMost
import HandS.Style
import HandS.EndBits
import HandS.Wide
import HandS.SortKw
import HandS.Rev
import HandS.Flow
import PyProof.ReprRoads
import PyProof.TupleOfSeq
import HandS.IsInst
import KE.GoesMore
import KE.DataMinMax
import KE.KExcIs
import HandS.ForExc
import HandS.ExcInit
import HandS.ExcField
import HandS.ExcIs
import HandS.SortRule
import PySem.Challenge.RW_oddrounds_k04_inversions_and_light_place
set_option Elab.async false
set_option maxRecDepth 100000
set_option maxHeartbeats 4000000
set_option linter.all false
namespace KX
open PySem PySem.Spec L2
open PyProof.Rows hiding St
/-! sorted of a tuple of ints -/
section
variable {prog : Program} {w : World} {A : Around} {E : Value → Shared → Prop} {s : Shared}
theorem sortSeq {kw : List (Str × Value)} {b : Bool} {l : Addr} {T : String} {o : Obj} {vs : List Value} {n : Nat} {ns : List Int} {Q : Value → Shared → Prop}
    (hT : T = "list" ∨ T = "tuple") (ho : s.heap.get? l = some o) (hc : o.cls = .type T) (hd : o.data = .seq vs.toArray n) (hz : vs.length ≤ sizeLine) (hI : IntsAre vs ns)
    (hk : ∀ a, Builtin.«list.sort» ⟨[.ref a], kw⟩ = Builtin.«list.sort» ⟨[.ref a], [(Str.ofString "reverse", .bool b)]⟩)
    (ha1 : argsOk "sorted" ⟨[.ref l], kw⟩) (ha2 : ∀ a, argsOk "list.sort" ⟨[a], kw⟩)
    (h : ∀ (h1 h' : Heap) (p : Addr) (out : List Value) (ns' : List Int) (e : Nat), (∀ c u, s.heap.get? c = some u → h1.get? c = some u) → (∀ c u, h1.get? c = some u → h'.get? c = some u) → h1.objs.size ≤ p → h'.get? p = some (seqObj "list" out.toArray e) → IntsAre out ns' → ns'.Perm ns → OrdB b ns' →
      Q (.ref p) { s with heap := h' }) :
    wpAny (model prog w) A (call (.builtin "sorted") [.ref l] kw) Q E s := by
  refine call_function_entry_kw kind_sorted plain_sorted entry_sorted ha1 ?_
  unfold Builtin.«sorted»; refine wpAny_bind (m := checkCount "sorted" 1 1 _) (wpAny_pure ?_)
  refine wpAny_bind (wpAny_collect_seq l hT ho hc hd (fun h1 k1 => ?_) (by rw [List.size_toArray]; exact hz))
  rw [show vs.toArray.toList = vs by simp]
  refine wpAny_bind (wpAny_newList ?_ hz)
  have hp : (h1.push (seqObj "list" vs.toArray 0)).get? h1.objs.size = some (seqObj "list" vs.toArray 0) := Heap.get?_push_size _ rfl
  show wpAny _ _ _ _ _ { s with heap := h1.push (seqObj "list" vs.toArray 0) }
  refine wpAny_bind (wpAny_holding (wpAny_call_entry_kw slot_list_sort ⟨_, hp, rfl⟩ entry_list_sort ?_ (ha2 _)))
  rw [hk]
  refine SrtR.list_sort_ordR SrtO.swo_int hp hz (fun h2 => SrtO.ints_sortable hI h2) fun out hs hb => ⟨_, rfl, ?_⟩
  refine wpAny_pure ⟨_, rfl, ?_⟩
  obtain ⟨ns', i1, i2, i3⟩ := SrtR.ints_outR hI hs hb
  obtain ⟨ep, he⟩ := sortedHeap_at (vs := vs) (out := (if b = true then out.toArray.reverse else out.toArray)) hp
  refine h h1 _ _ (if b = true then out.toArray.reverse else out.toArray).toList ns' ep k1 (fun c u q => ?_) (Nat.le_refl _) (by rw [Array.toArray_toList]; exact he) i1 i2 i3
  have lt := Heap.lt_size q
  rw [sortedHeap_old (Nat.ne_of_lt lt) (by rw [size_push']; exact Nat.lt_succ_of_lt lt)]
  exact Heap.get?_push_of_some _ q
end

section
variable {X : Cx}
/-- sorted(t), sorted(t, reverse=b), t a tuple or a list of ints -/
def rSrt (K : PySem.W.Frag) (b : Bool) : List V → Hp → VK → Prop := fun vs H Q => ∃ (a : Addr) (ns : List Int), vs = [V.ref a] ∧ (SqL K H a (ns.map V.int) ∨ SqT K H a (ns.map V.int)) ∧
  ∀ (ns' : List Int) (p : Addr), ns'.Perm ns → OrdB b ns' → H p = none → Q (.ref p) (upd H p (.lst (ns'.map V.int)))
theorem srt_run {b : Bool} {kw : List (Str × Value)} {pins : List (Addr × Obj)} {s : Shared} {σ : St} {H : Hp} {a : Addr} {ns : List Int} {Q : VK} (I : Inv X pins σ H s) (hs : SqL X.K H a (ns.map V.int) ∨ SqT X.K H a (ns.map V.int))
    (hk : ∀ c, Builtin.«list.sort» ⟨[.ref c], kw⟩ = Builtin.«list.sort» ⟨[.ref c], [(Str.ofString "reverse", .bool b)]⟩) (ha1 : argsOk "sorted" ⟨[.ref a], kw⟩) (ha2 : ∀ c, argsOk "list.sort" ⟨[c], kw⟩)
    (q : ∀ (ns' : List Int) (p : Addr), ns'.Perm ns → OrdB b ns' → H p = none → Q (.ref p) (upd H p (.lst (ns'.map V.int)))) :
    wpAny (model X.prog X.w) X.A (call (.builtin "sorted") [.ref a] kw) (EP X pins σ Q) X.xe s := by
  have fin : ∀ (its : List Value), Vals (ns.map V.int) its → (ns.map V.int).length ≤ sizeLine → ∀ (h1 h' : Heap) (p : Addr) (out : List Value) (ns' : List Int) (e : Nat), (∀ c u, s.heap.get? c = some u → h1.get? c = some u) → (∀ c u, h1.get? c = some u → h'.get? c = some u) →
      h1.objs.size ≤ p → h'.get? p = some (seqObj "list" out.toArray e) → IntsAre out ns' → ns'.Perm ns → OrdB b ns' → EP X pins σ Q (.ref p) { s with heap := h' } := by
    intro its rv hz h1 h' p out ns' e k1 k2 hp he i1 i2 i3
    have I1 : Inv X pins σ H { s with heap := h1 } := I.kept (t' := s.toks) k1
    refine ⟨.ref p, upd H p (.lst (ns'.map V.int)), I1.laid (t' := s.toks) k2 hp (show ObjOk X.prog X.w _ h' p (.lst (ns'.map V.int)) from ⟨?_, out, e, vals_of_ints i1, he⟩), rfl, q ns' p i2 i3 (I1.hok.fresh hp)⟩
    rw [List.length_map, i2.length_eq]; rw [List.length_map] at hz; exact hz
  rcases hs with hs | hs
  · obtain ⟨its, rv, pl, hz⟩ := I.list hs
    obtain ⟨o, ho, hc, n, hd⟩ := pl.isList
    exact sortSeq (.inl rfl) ho hc hd (by rw [← rv.length]; exact hz) rv.ints hk ha1 ha2 (fin its rv hz)
  · obtain ⟨its, rv, ⟨o, ho, hc, n, hd⟩, hz⟩ := I.tuple hs
    exact sortSeq (.inr rfl) ho hc hd (by rw [← rv.length]; exact hz) rv.ints hk ha1 ha2 (fin its rv hz)
theorem sort_nokw (a : Addr) : Builtin.«list.sort» ⟨[.ref a], []⟩ = Builtin.«list.sort» ⟨[.ref a], [(Str.ofString "reverse", .bool false)]⟩ := by
  rw [list_sort_rev]
  first | rfl | kernel_rfl
theorem cr_srt : CallR X (.builtin "sorted") (rSrt X.K false) := by
  intro pins s σ H vs us Q I r ⟨a, ns, e, hs, q⟩
  subst e
  rw [Vals.ref1 r]
  exact srt_run I hs sort_nokw (args_sorted1 _) (fun _ => args_list_sort _) q
theorem cr_srtRev {b : Bool} : CallRK X (.builtin "sorted") [Str.ofString "reverse"] (fun vs zs H Q => zs = [.bl b] ∧ rSrt X.K b vs H Q) := by
  intro pins s σ H vs zs us ws Q I r rz ⟨ez, a, ns, e, hs, q⟩
  subst e ez
  rw [Vals.ref1 r]
  obtain ⟨w1, rfl, e1⟩ := vals1 rz
  obtain rfl : w1 = Value.bool b := e1
  exact srt_run I hs (fun _ => rfl) (args_sorted_rev _ _) (fun _ => args_list_sort_rev _ _) q
/-! a list's slice with a step -/
def pickV (xs : List V) (lo hi st : Option Int) : List V := (sliceRange (sliceBounds lo hi st xs.length).1 (sliceBounds lo hi st xs.length).2.1 (sliceBounds lo hi st xs.length).2.2).filterMap (xs[·]?)
theorem vals_pick {xs : List V} {us : List Value} (r : Vals xs us) : ∀ js : List Nat, Vals (js.filterMap (xs[·]?)) (js.filterMap (us[·]?))
  | [] => .nil
  | j :: js => by
    cases e : xs[j]? with
    | none =>
      rw [List.filterMap_cons_none e, List.filterMap_cons_none (r.none_of e)]; exact vals_pick r js
    | some x =>
      obtain ⟨u, hu, rv⟩ := r.get e
      rw [List.filterMap_cons_some e, List.filterMap_cons_some hu]
      exact .cons rv (vals_pick r js)
def tStep (K : PySem.W.Frag) (te : TE) (tl th ts : TO) : TE := fun σ H Q => te σ H fun x H1 => tl σ H1 fun l H2 => th σ H2 fun u H3 => ts σ H3 fun t H4 => t ≠ some 0 ∧ ∃ a xs, x = .ref a ∧ SqL K H4 a xs ∧ ∀ p, H4 p = none → Q (.ref p) (upd H4 p (.lst (pickV xs l u t)))
theorem pe_step {e s1 : Expr} {lo hi : Option Expr} {te : TE} {tl th ts : TO} {p2 pos : Pos} (he : PE X e te) (hl : PO X lo tl) (hu : PO X hi th) (hs : PO X (some s1) ts) : PE X (.Subscript e (.Slice lo hi (some s1) p2) pos) (tStep X.K te tl th ts) := by
  constructor
  intro pins s σ H Q I h
  refine Subscript_ (thn (he.run pins s σ H _ I h) fun v s1 ⟨x, H1, I1, r1, q1⟩ => ?_)
  refine wpAny_Slice (thn (hl.run pins s1 σ H1 _ I1 q1) fun vl s2 ⟨l, H2, I2, pl, q2⟩ => thn (hu.run pins s2 σ H2 _ I2 q2) fun vu s3 ⟨u, H3, I3, pu, q3⟩ => thn (hs.run pins s3 σ H3 _ I3 q3) fun vt s4 ⟨t, H4, I4, pt, hn, a, xs, ex, hx, q⟩ => ?_)
  subst ex
  cases r1
  have I5 : Inv X pins σ H4 { s4 with heap := s4.heap.push { cls := .type "slice", data := .fields #[vl, vu, vt] } } := I4.kept (t' := s4.toks) fun b o z => Heap.get?_push_of_some _ z
  obtain ⟨its, r, ht, hz⟩ := I5.list hx
  have hlen := r.length
  refine tail_any (ops := [.ref a, .ref s4.heap.objs.size]) ht.isList.typeIs (PySem.slot_list_getitem.lookup) ?_ (by with_unfolding_all rfl)
  refine wpAny_getItem_list_slice ht.isList (Heap.IsSliceOf.new _ vl vu vt) pl pu pt hn ?_ (by rw [List.size_toArray]; omega)
  have e1 : slicePick its.toArray l u t = ((sliceRange (sliceBounds l u t xs.length).1 (sliceBounds l u t xs.length).2.1 (sliceBounds l u t xs.length).2.2).filterMap (its[·]?)).toArray := by
    unfold slicePick; rw [List.size_toArray, hlen]; simp
  rw [e1]
  refine ⟨.ref _, _, I5.laid (t' := s4.toks) (o := .lst (pickV xs l u t)) (fun b o z => Heap.get?_push_of_some _ z) (Nat.le_refl _) ⟨?_, _, 0, vals_pick r _, Heap.get?_push_size _ rfl⟩, rfl, q _ (I5.hok.fresh (Nat.le_refl _))⟩
  have h1 := slicePick_size_le its.toArray l u t
  rw [e1, List.size_toArray, List.size_toArray] at h1
  have h2 := (vals_pick r (sliceRange (sliceBounds l u t xs.length).1 (sliceBounds l u t xs.length).2.1 (sliceBounds l u t xs.length).2.2)).length
  unfold pickV; omega
end
end KX

namespace KX
open PySem PySem.Spec L2
open PyProof.Rows hiding St
/-! a def whose callers run no repr: its promise -/
structure FnOkG (P : Program) (w : World) (K : PySem.W.Frag) (mg : Str → Option Value) (base : Heap) (CX : CXT) (k : Nat) (f : Addr) (fd : FuncData) (ps : List Str) (sp : Sp) : Prop where
  len : ∀ vs H Q E, sp vs H Q E → vs.length = ps.length
  run : ∀ (A : Around) (outer : List Env) (s : Shared) (H : Hp) (args : Args) (us : List Value) (vs : List V) (Q : VK) (E : XK), A.guards = some [] → Room k A → Env0 P w K mg base A outer s H → BindsTo s fd args (ps.zip us) → Vals vs us → sp vs H Q E →
    codeAny (model P w) A (.call (.ref f) args) (CR CX outer P w H s Q E) s
theorem FnOk.toG {P : Program} {w : World} {K : PySem.W.Frag} {mg : Str → Option Value} {base : Heap} {CX : CXT} {k : Nat} {f : Addr} {fd : FuncData} {ps : List Str} {sp : Sp} (F : FnOk P w K mg base CX k f fd ps sp) : FnOkG P w K mg base CX k f fd ps sp :=
  ⟨F.len, fun A outer s H args us vs Q E _ => F.run A outer s H args us vs Q E⟩
section
variable {CX : CXT} {P : Program} {w : World} {K : PySem.W.Frag} {mg : Str → Option Value} {base : Heap} {k : Nat} {f : Addr} {N ps : List Str} {sp : Sp}
theorem fnG {name qual : Str} {params : Arguments} {body : List Stmt} {scope : Scope} {dV kV doc pm cdv ct oc : Value} {an od : Option Addr} {osl : Array (Option Value)}
    (lk : K.lookup f = some ⟨oc, od, .func (PySem.W.fnOf name qual params body scope dV kV doc pm an cdv ct), osl⟩) (hcd : PySem.W.codeIn K cdv qual = true) (S : FnScope N ps scope) (len : ∀ vs H Q E, sp vs H Q E → vs.length = ps.length)
    (hbody : ∀ (A : Around) (outer : List Env) (s : Shared) (H : Hp) (vs : List V) (Q : VK) (E : XK), A.guards = some [] → Room k (A.deeper (envOfC qual scope s.heap.objs.size f cdv)) → sp vs H Q E →
      ∃ t, PSs (cxOf CX P w K mg base N qual scope f cdv A outer s H E) body t ∧ t { nx := fun _ H' => Q .non H', rt := Q } (start N vs) H) :
    FnOkG P w K mg base CX (k + 1) f (PySem.W.fnOf name qual params body scope dV kV doc pm an cdv ct) ps sp := by
  constructor
  · exact len
  intro A outer s H args us vs Q E hgd hr e0 hb r hsp
  have hl := len _ _ _ _ hsp
  have KX := e0.mod.kin.keeps fun b o e => (e0.bs b o e).1
  have lim := e0.mod.nolimit.keeps fun b o e => (e0.bs b o e).1
  have hkind : ∀ y ∈ ps.zip us, scope.names.lookup y.1 = some .local ∨ (scope.names.lookup y.1 = some .cell ∧ ((cellsFrom (s.heap.objs.size + 1) scope.names []).lookup y.1).isSome = true) := by
    rintro ⟨n, v⟩ hy
    exact (S.par n (List.of_mem_zip hy).1).imp id fun q => ⟨q, PySem.W.cellsFrom_some _ _ _ (.inl q)⟩
  refine codeAny_call_function hr.depth (KX _ _ lk) rfl S.co S.gen rfl (PySem.W.codeRec_of KX hcd) (hb _ _ _ _ (wpAny_newFunctionEnv_cells S.kind hkind fun env he s1 x => ?_))
  subst he
  obtain ⟨t, ht, hq⟩ := hbody A outer s H vs Q E hgd (hr.deeper _) hsp
  have I := inv_start (CX := CX) (E := E) (qual := qual) (f := f) (cd := cdv) S hr.hd e0 hl r x
  refine ⟨lim.keeps x.toInCall.keep, codeAny_func (wpAny_mono (ht.run [] s1 (start N vs) H _ I hq) (fun fl s' hs => ?_) fun e s' hs => hs)⟩
  cases fl with
  | ret u =>
    obtain ⟨v, σ', H', J, rv, q⟩ := hs
    exact ⟨v, H', J.os, J.bare, J.base, J.hok, rv, q⟩
  | next =>
    obtain ⟨σ', H', J, q⟩ := hs
    exact ⟨V.non, H', J.os, J.bare, J.base, J.hok, rfl, q⟩
  | brk => obtain ⟨_, _, _, q⟩ := hs; exact False.elim q
  | cont => obtain ⟨_, _, _, q⟩ := hs; exact False.elim q
theorem Fun.okG {x qual : Str} {st : Stmt} {fd : FuncData} (F : Fun K x qual st f fd) (S : FnScope N ps (defScope st)) (len : ∀ vs H Q E, sp vs H Q E → vs.length = ps.length)
    (hbody : ∀ (cdv : Value) (A : Around) (outer : List Env) (s : Shared) (H : Hp) (vs : List V) (Q : VK) (E : XK), A.guards = some [] → Room k (A.deeper (envOfC qual (defScope st) s.heap.objs.size f cdv)) → sp vs H Q E →
      ∃ t, PSs (cxOf CX0 P w K mg base N qual (defScope st) f cdv A outer s H E).nox (defBody st) t ∧ t { nx := fun _ H' => Q .non H', rt := Q } (start N vs) H) : FnOkG P w K mg base CX0 (k + 1) f fd ps sp := by
  obtain ⟨oc, od, kV, doc, pm, an, cdv, ct, osl, rfl, lk, hcd⟩ := F.ex
  refine fnG lk hcd S len fun A outer s H vs Q E hgd hr hsp => ?_
  obtain ⟨t, h, q⟩ := hbody cdv A outer s H vs Q E hgd hr hsp
  exact ⟨t, h.nox, q⟩
end
section
variable {X : Cx} {CX : CXT} {k : Nat} {f C : Addr} {fd : FuncData} {ps : List Str} {sp : Sp} {dvs : List V} {ds : List Value} {E : XK} {x m : Str} {p pos : Pos} {e : Expr} {es : List Expr} {t : TA}
theorem pe_callG (F : FnOkG X.prog X.w X.K X.mg X.base CX k f fd ps sp) (hgd : X.A.guards = some []) (hr : Room k X.A) (hg : Gl X x) (hm : X.mg x = some (.ref f)) (hk : PySem.W.keepIn X.K (.ref f) = true) (hb : Binds X.K fd ps ds) (hd : Vals dvs ds) (hx : Passes CX X E)
    (ha : PA X (e :: es) t) (hdb : (x == ("__debug__" : Str)) = false := by decide) (he : starEach (e :: es) X.env = (false, eval e X.env) :: starEach es X.env := by rfl) (hpl : (backTo pos (starEach es X.env)).any (·.1) = false := by rfl) :
    PE X (.Call (.Name x p) (e :: es) [] pos) (tCall sp dvs E t) := by
  constructor
  intro pins s σ H Q I h
  refine wpAny_Call_Name_kw (ld_glob I hg hm (PySem.W.callWith_K (h₀ := X.base) I.ok.mod.kin hk (thn (ha.run pos pins s σ H _ I h) fun us s1 ⟨vs, H1, I1, r, q⟩ => ⟨I1.kIn, ?_⟩) he hpl) hdb)
  have r2 : Vals (vs ++ dvs) (us ++ ds) := r.append hd
  have hl : (us ++ ds).length = ps.length := r2.length.symm.trans (F.len _ _ _ _ q)
  refine wpAny_call (codeAny_mono (F.run X.A X.stack s1 H1 ⟨us, []⟩ (us ++ ds) (vs ++ dvs) Q E hgd hr I1.env0 (hb s1 us I1.kIn hl) r2 q) fun z s' hq => ?_)
  rcases z with e' | fl
  · exact hx pins σ H1 s1 e' s' I1 hq
  · cases fl <;> first | exact I1.after hq | exact False.elim hq
end
/-! repr of data -/
section
variable {X : Cx}
def rRepr (K : PySem.W.Frag) : List V → Hp → VK → Prop := fun vs H Q => ∃ v d, vs = [v] ∧ Dp K H v d ∧ d.hasDict = false ∧ d.showable = true ∧ d.depth ≤ 60 ∧ d.shown.length ≤ sizeLine ∧ Q (.str d.shown) H
theorem cr_repr (hgd : X.A.guards = some []) (hu : X.A.units + 64 < cLine) : CallR X (.builtin "repr") (rRepr X.K) := by
  intro pins s σ H vs us Q I r ⟨v, d, e, hd, hn, hs, h60, hz, q⟩
  subst e
  obtain ⟨u, rfl, rv⟩ := vals1 r
  have fin : ∀ (h' : Heap) (t : Tok) (tk : Nat), (∀ b o, s.heap.get? b = some o → h'.get? b = some o) → EP X pins σ Q (.str d.shown t) { s with heap := h', toks := tk } := fun h' t tk hk => ⟨.str d.shown, H, I.kept hk, ⟨t, rfl⟩, q⟩
  obtain ⟨as, rd⟩ := Dp.reads I d v u hd rv
  cases rd with
  | none => exact P.repr_of_none (fin s.heap _ _ fun _ _ z => z)
  | bool b => exact P.repr_of_bool (by have := fin s.heap s.toks (s.toks + 1) fun _ _ z => z; simpa only [PyData.shown] using this)
  | int i t => exact P.repr_of_int (by simpa [PyData.showable] using hs) (by have := fin s.heap s.toks (s.toks + 1) fun _ _ z => z; simpa only [PyData.shown] using this)
  | str x t => exact P.repr_of_str (by have := fin s.heap s.toks (s.toks + 1) fun _ _ z => z; simpa only [PyData.shown] using this) (by simpa only [PyData.shown] using hz)
  | list h1 h2 h3 h4 => exact repr_of_reads' (.list h1 h2 h3 h4) hs (PyData.noDict_hsm hn) hgd (by omega) (fun _ _ z => z) (fun h' t tk hk => fin h' t tk hk) hz
  | tuple h1 h2 h3 h4 => exact repr_of_reads' (.tuple h1 h2 h3 h4) hs (PyData.noDict_hsm hn) hgd (by omega) (fun _ _ z => z) (fun h' t tk hk => fin h' t tk hk) hz
  | dict h1 h2 h3 h4 h5 => cases hd
end
end KX

namespace KX
open PySem PySem.Spec L2
open PyProof.Rows hiding St
/-! the end of a law whose def runs repr -/
section
variable {P : Program} {w : World} {K : PySem.W.Frag} {mg mb : Str → Option Value} {k : Nat} {fa a : Addr} {fd : FuncData} {x : Str} {sp : Sp} {s1 : Shared} {vs : List Value} {ns : List Int}
abbrev LawEnd (s1 : Shared) : Result → Shared → Prop := fun r s' => r = .ok (.ret (.bool true)) ∧ OldK s1.heap s'.heap ∧ s'.os = s1.os ∧ AllBare s'.gens
theorem law_core (KX : K.In s1.heap) (hns : s1.heap.Ns mainGlobals mg) (hb : s1.heap.Ns builtinsNs mb) (hbb : ∀ y : Str, y ≠ "__name__" → mb y = bootBuiltins y) (hlim : s1.heap.NoLimit) (hg : s1.gens = #[])
    (ha : s1.heap.get? a = some { cls := .type "list", data := .seq vs.toArray }) (hr : Room k callerA)
    (F : ∀ base : Heap, K.In base → base.Ns mainGlobals mg → FnOkG P w K mg base CX0 k fa fd [x] sp) (hbind : ∀ (s : Shared) (u : Value), BindsTo s fd ⟨[u], []⟩ [(x, u)])
    (H : Hp) (hO : Only H) (hok : HOk P w H s1.heap) (hA : ∀ b, H b ≠ none → b = a) (hK : H a ≠ none → K.lookup a = none)
    (hsp : sp [.ref a] H (fun v _ => v = .bl true) fun _ _ _ => False) :
    codeAny (model P w) callerA (.call (.ref fa) ⟨[.ref a], []⟩) (LawEnd s1) s1 := by
  have free : ∀ {b : Addr} {o : Obj} {es : Array DictEntry} {n : Nat}, s1.heap.get? b = some o → o.data = .dict es n → H b = none := by
    intro b o es n e d
    cases q : H b with
    | none => rfl
    | some u =>
      obtain rfl := hA b (by rw [q]; exact nofun)
      rw [ha] at e
      cases e
      exact absurd (show Data.seq vs.toArray _ = Data.dict es n from d) (fun z => nomatch z)
  have hid : ∀ {b : Addr} {m : Str → Option Value}, s1.heap.Ns b m → (hidT s1.heap H).Ns b m := by
    rintro b m ⟨o, es, n, e, d, r⟩
    exact ⟨o, es, n, hidT_get e (free e d), d, r⟩
  have kin : K.In (hidT s1.heap H) := by
    intro b o e
    refine hidT_get (KX b o e) ?_
    cases q : H b with
    | none => rfl
    | some u =>
      obtain rfl := hA b (by rw [q]; exact nofun)
      rw [hK (by rw [q]; exact nofun)] at e
      cases e
  have mod : Mod K mg (hidT s1.heap H) := by
    obtain ⟨mc, z1, z2⟩ := hlim
    exact ⟨kin, hid hns, ⟨mb, hid hb, hbb⟩, mc, hid z1, z2⟩
  have e0 : Env0 P w K mg (hidT s1.heap H) callerA [] s1 H := by
    refine ⟨rfl, mod, fun b o e => of_hidT e, Nat.le_of_eq (hidT_size _ _), trivial, fun b z => ?_, hok, .of_eq hg⟩
    exact absurd (show b ∈ ([] : List Addr) from z) List.not_mem_nil
  refine codeAny_mono ((F _ kin (hid hns)).run callerA [] s1 H ⟨[.ref a], []⟩ [.ref a] [.ref a] _ _ rfl hr e0 (hbind s1 (.ref a)) (.cons rfl .nil) hsp) fun r s' h => ?_
  rcases r with e | fl
  · exact False.elim h
  cases fl with
  | ret u =>
    obtain ⟨v, H', os, bare, un, hok', rv, q⟩ := h
    obtain rfl : v = .bl true := q
    obtain rfl : u = Value.bool true := rv
    refine ⟨rfl, OldK.of_keep fun b o e => ?_, os, bare⟩
    rcases hO b with z | ⟨ob, xs, z⟩
    · exact un.keep b o e z (fun y => absurd (show b ∈ ([] : List Addr) from y) List.not_mem_nil) List.not_mem_nil
    · obtain ⟨e1, _⟩ := hok b _ z
      obtain ⟨e2, _⟩ := hok' b _ (un.frzs b ob _ z)
      exact e2.trans (e1.symm.trans e)
  | next => exact False.elim h
  | brk => exact False.elim h
  | cont => exact False.elim h
theorem law_run (KX : K.In s1.heap) (hns : s1.heap.Ns mainGlobals mg) (hb : s1.heap.Ns builtinsNs mb) (hbb : ∀ y : Str, y ≠ "__name__" → mb y = bootBuiltins y) (hlim : s1.heap.NoLimit) (hg : s1.gens = #[])
    (ha : s1.heap.get? a = some { cls := .type "list", data := .seq vs.toArray }) (hi : IntsAre vs ns) (hl : ns.length ≤ sizeLine) (hr : Room k callerA)
    (F : ∀ base : Heap, K.In base → base.Ns mainGlobals mg → FnOkG P w K mg base CX0 k fa fd [x] sp) (hbind : ∀ (s : Shared) (u : Value), BindsTo s fd ⟨[u], []⟩ [(x, u)])
    (hsp : ∀ H : Hp, SqL K H a (ns.map V.int) → sp [.ref a] H (fun v _ => v = .bl true) fun _ _ _ => False) :
    codeAny (model P w) callerA (.call (.ref fa) ⟨[.ref a], []⟩) (LawEnd s1) s1 := by
  have rv := vals_ints hi
  cases hk : K.lookup a with
  | some o =>
    have e := KX a o hk
    rw [ha] at e
    cases e
    refine law_core KX hns hb hbb hlim hg ha hr F hbind (fun _ => none) (fun _ => .inl rfl) (fun b u z => nomatch (show (none : Option HO) = some u from z)) (fun b z => absurd rfl z) (fun z => absurd rfl z) (hsp _ (.inr ⟨_, vs.toArray, _, hk, rfl, rfl, rfl, ?_, ?_⟩))
    · rw [List.size_toArray, hi.length]; exact hl
    · simpa using rv
  | none =>
    let o : Obj := { cls := .type "list", data := .seq vs.toArray }
    have h1 : ∀ b, b = a → (fun b => if b = a then some (HO.frz o (.lst (ns.map V.int))) else none : Hp) b = some (HO.frz o (.lst (ns.map V.int))) := fun b e => if_pos e
    have h2 : ∀ b, b ≠ a → (fun b => if b = a then some (HO.frz o (.lst (ns.map V.int))) else none : Hp) b = none := fun b e => if_neg e
    generalize (fun b => if b = a then some (HO.frz o (.lst (ns.map V.int))) else none : Hp) = H at h1 h2
    refine law_core KX hns hb hbb hlim hg ha hr F hbind H (fun b => ?_) (fun b u z => ?_) (fun b z => ?_) (fun _ => hk) (hsp H (.inl (.inr ⟨o, h1 a rfl⟩)))
    · rcases Decidable.em (b = a) with e | e
      · exact .inr ⟨_, _, h1 b e⟩
      · exact .inl (h2 b e)
    · rcases Decidable.em (b = a) with e | e
      · rw [h1 b e] at z
        cases z
        subst e
        exact ⟨ha, by rw [List.length_map]; exact hl, vs, _, rv, ha⟩
      · rw [h2 b e] at z
        cases z
    · rcases Decidable.em (b = a) with e | e
      · exact e
      · exact absurd (h2 b e) z
end
theorem walkG {l : PySem.W.OpenLaw} {n k : Nat} {q : Program} {loose : List Str} {XP : (Str → Option Value) → Heap → Prop} {YP : World → Heap → Prop} {d : DefRec} {K : Params → PySem.W.Frag} {sp : PySem.W.Frag → Sp} {x : Str}
    (hn : l.most = some n) (hn2 : n ≤ sizeLine) (hdf : d.params.defaults = []) (hr : Room k callerA) (hY : ∀ (w : World) (h : Heap), YP w h → (K w.params).In h)
    (F : ∀ (w : World) (mg : Str → Option Value) (fa : Addr) (h : Heap), (K w.params).In h → h.Ns mainGlobals mg → mg d.name = some (.ref fa) →
      ∃ fd : FuncData, (∀ (s : Shared) (u : Value), BindsTo s fd ⟨[u], []⟩ [(x, u)]) ∧ ∀ base : Heap, (K w.params).In base → base.Ns mainGlobals mg → FnOkG l.prog w (K w.params) mg base CX0 k fa fd [x] (sp (K w.params)))
    (hsp : ∀ (K : PySem.W.Frag) (H : Hp) (a : Addr) (ns : List Int), ns.length ≤ n → (∀ z ∈ ns, Builtin.Int.intBits z ≤ 1048576) → SqL K H a (ns.map V.int) → sp K [.ref a] H (fun v _ => v = .bl true) fun _ _ _ => False) :
    PySem.W.WalkO q loose XP YP l.row.toRowW d [] (fun f vs => PySem.call f vs) := by
  refine Att.attach_callB hn hdf fun w s₀ s₁ mg mb fa o pm cd doc a vs ns G Y ho hd hcd hmg hobj hints hlen hbits hg => ?_
  obtain ⟨fd, hb, hF⟩ := F w mg fa _ (hY w _ Y) G.T.g hmg
  exact law_run (hY w _ Y) G.T.g G.T.b G.T.builtins G.T.nolimit hg hobj hints (Nat.le_trans hlen hn2) hr hF hb fun H hS => hsp _ H a ns hlen hbits hS
end KX

namespace KX
open PySem PySem.Spec L2
open PyProof.Rows hiding St
/-! the store of draws that every law has -/
def supD (c : Addr) (t b : Int) : List (Key × V) := [(.inr "cells", .ref c), (.inr "turn", .int t), (.inr "blend", .int b)]
theorem kne {x y : Str} (h : x ≠ y) : decide ((Sum.inr x : Key) = Sum.inr y) = false := decide_eq_false fun q => h (Sum.inr.inj q)
theorem keq (x : Str) : decide ((Sum.inr x : Key) = Sum.inr x) = true := decide_eq_true rfl
theorem n1 : ("cells" : Str) ≠ "turn" := by decide +kernel
theorem n2 : ("cells" : Str) ≠ "blend" := by decide +kernel
theorem n3 : ("turn" : Str) ≠ "blend" := by decide +kernel
theorem sup_cells (c : Addr) (t b : Int) : valV (supD c t b) (.inr "cells") = some (.ref c) := by
  unfold valV supD; simp
theorem sup_turn (c : Addr) (t b : Int) : valV (supD c t b) (.inr "turn") = some (.int t) := by
  unfold valV supD; simp [n1]
theorem sup_blend (c : Addr) (t b : Int) : valV (supD c t b) (.inr "blend") = some (.int b) := by
  unfold valV supD; simp [n2, n3]
theorem sup_putT (c : Addr) (t b t' : Int) : putK (supD c t b) (.inr "turn") (.int t') = supD c t' b := by
  unfold supD; simp only [putK]; simp [n1, n3.symm]
theorem sup_putB (c : Addr) (t b b' : Int) : putK (supD c t b) (.inr "blend") (.int b') = supD c t b' := by
  unfold supD; simp only [putK]; simp [n2, n3]
theorem sup_make (c : Addr) (t b : Int) : mergeK [] (supD c t b) = supD c t b := by
  unfold supD mergeK; simp only [List.foldl, putK]; simp [n1, n2, n3]
structure Sup (H : Hp) (d c : Addr) : Prop where
  ex : ∃ (cells : List Int) (t b : Int), H d = some (.dK (supD c t b)) ∧ H c = some (.lst (cells.map V.int)) ∧ cells.length ≤ 63 ∧ 0 ≤ b ∧ b < 2147483647
theorem Sup.ne {H : Hp} {d c : Addr} (h : Sup H d c) : d ≠ c := by
  obtain ⟨_, _, _, h1, h2, _⟩ := h.ex
  exact ne_of h1 h2 (fun z => nomatch z)
/-- all but d and c is as it was -/
def SameX (H H' : Hp) (d c : Addr) : Prop := ∀ b o, b ≠ d → b ≠ c → H b = some o → H' b = some o
theorem SameX.refl (H : Hp) (d c : Addr) : SameX H H d c := fun _ _ _ _ h => h
theorem SameX.trans {H H1 H2 : Hp} {d c : Addr} (a : SameX H H1 d c) (b : SameX H1 H2 d c) : SameX H H2 d c := fun x o h1 h2 h => b x o h1 h2 (a x o h1 h2 h)
theorem SameX.of {H H' : Hp} (d c : Addr) (h : Same H H') : SameX H H' d c := fun b o _ _ e => h b o e
theorem Sup.same {H H' : Hp} {d c : Addr} (h : Sup H d c) (s : Same H H') : Sup H' d c := by
  obtain ⟨cs, t, b, h1, h2, h3⟩ := h.ex
  exact ⟨cs, t, b, s _ _ h1, s _ _ h2, h3⟩
theorem Sup.upd {H : Hp} {d c l : Addr} {o : HO} (h : Sup H d c) (h1 : l ≠ d) (h2 : l ≠ c) : Sup (upd H l o) d c := by
  obtain ⟨cs, t, b, e1, e2, h3⟩ := h.ex
  exact ⟨cs, t, b, by rw [upd_ne h1.symm]; exact e1, by rw [upd_ne h2.symm]; exact e2, h3⟩
theorem Sup.hasD {H : Hp} {d c : Addr} (h : Sup H d c) : H d ≠ none := by
  obtain ⟨cs, t, b, h1, _⟩ := h.ex
  rw [h1]; exact nofun
theorem Sup.hasC {H : Hp} {d c : Addr} (h : Sup H d c) : H c ≠ none := by
  obtain ⟨cs, t, b, _, h1, _⟩ := h.ex
  rw [h1]; exact nofun
theorem same_new {H : Hp} {p : Addr} {o : HO} (h : H p = none) : Same H (upd H p o) := fun b u e => by rw [upd_ne (ne_of_none e h)]; exact e
/-- a draw: 0 ≤ r < m -/
def spTake : Sp := fun vs H Q _ => ∃ (d c : Addr) (m : Int), vs = [.ref d, .int m] ∧ Sup H d c ∧ 0 < m ∧ m < 2 ^ 62 ∧ ∀ (r : Int) (H' : Hp), 0 ≤ r → r < m → Sup H' d c → SameX H H' d c → Q (.int r) H'
/-- a list of at most 63 ints in, the store out -/
def spSupply (K : PySem.W.Frag) : Sp := fun vs H Q _ => ∃ (a : Addr) (ns : List Int), vs = [.ref a] ∧ SqL K H a (ns.map V.int) ∧ ns.length ≤ 63 ∧ ∀ (d c : Addr) (H' : Hp), H d = none → H c = none → Same H H' → Sup H' d c → Q (.ref d) H'
/-- some order of the items -/
def spStir (K : PySem.W.Frag) : Sp := fun vs H Q _ => ∃ (d c a : Addr) (ks : List Int), vs = [.ref d, .ref a] ∧ Sup H d c ∧ SqL K H a (ks.map V.int) ∧ ks.length ≤ 63 ∧
  ∀ (p : Addr) (H' : Hp) (ks' : List Int), ks'.Perm ks → Sup H' d c → SameX H H' d c → H p = none → H' p = some (.lst (ks'.map V.int)) → Q (.ref p) H'
/-- ascending keys -/
def KeysOk (ks : List Int) : Prop := ks.Pairwise (· < ·) ∧ ∀ k ∈ ks, 0 ≤ k ∧ k ≤ 1000000000000
def spKeys : Sp := fun vs H Q _ => ∃ (d c : Addr) (n : Nat), vs = [.ref d, .int (n : Int)] ∧ Sup H d c ∧ 1 ≤ n ∧ n ≤ 30 ∧
  ∀ (p : Addr) (H' : Hp) (ks : List Int), ks.length = n → KeysOk ks → Sup H' d c → SameX H H' d c → H p = none → H' p = some (.lst (ks.map V.int)) → Q (.ref p) H'
/-- a row -/
structure RowOk (row : List Int) : Prop where
  nd : row.Nodup
  key : ∀ k ∈ row, 0 ≤ k ∧ k ≤ 1000000000000
theorem RowOk.of {ks row : List Int} (h : KeysOk ks) (p : row.Perm ks) : RowOk row :=
  ⟨p.nodup_iff.mpr (h.1.imp fun {a b} q => Int.ne_of_lt q), fun k hk => h.2 k (p.mem_iff.mp hk)⟩
def spRow : Sp := fun vs H Q _ => ∃ (d c : Addr) (n : Nat), vs = [.ref d, .int (n : Int)] ∧ Sup H d c ∧ 1 ≤ n ∧ n ≤ 29 ∧
  ∀ (p : Addr) (H' : Hp) (row : List Int), RowOk row → 1 ≤ row.length → row.length ≤ n → Sup H' d c → SameX H H' d c → H p = none → H' p = some (.tup (row.map V.int)) → Q (.ref p) H'
theorem frX {H H' : Hp} {d c b : Addr} (S' : Sup H' d c) (x : SameX H H' d c) (h : H' b = none) : H b = none := by
  cases e : H b with
  | none => rfl
  | some o =>
    rcases Decidable.em (b = d) with z | z
    · exact absurd h (z ▸ S'.hasD)
    · rcases Decidable.em (b = c) with z2 | z2
      · exact absurd h (z2 ▸ S'.hasC)
      · rw [x b o z z2 e] at h; cases h
theorem emod_in {a m : Int} (h : 0 < m) : 0 ≤ a % m ∧ a % m < m := ⟨Int.emod_nonneg a (by omega), Int.emod_lt_of_pos a h⟩
theorem nats62 {m : Int} (h0 : 0 < m) (h : m < 2 ^ 62) : m.natAbs < 2 ^ 62 := by omega
theorem len_pos_cut {xs : List V} : (xs ≠ [] → 0 < xs.length) := List.length_pos_iff.mpr
theorem sup_get {H : Hp} {d : Addr} {kvs : List (Key × V)} {x : Str} {v : V} (hd : H d = some (.dK kvs)) (e : valV kvs (.inr x) = some v) : DGet H d (.str x) (some v) := by
  have h := DGet.k (k := .inr x) hd
  rw [e] at h
  exact h
theorem sup_setT {H : Hp} {d c : Addr} {t b t' : Int} (hd : H d = some (.dK (supD c t b))) : DPut H d (.str "turn") (.int t') (upd H d (.dK (supD c t' b))) := by
  have h := DPut.k (k := .inr "turn") (v := .int t') hd (show 3 < sizeLine by decide)
  rw [sup_putT] at h
  exact h
theorem sup_setB {H : Hp} {d c : Addr} {t b b' : Int} (hd : H d = some (.dK (supD c t b))) : DPut H d (.str "blend") (.int b') (upd H d (.dK (supD c t b'))) := by
  have h := DPut.k (k := .inr "blend") (v := .int b') hd (show 3 < sizeLine by decide)
  rw [sup_putB] at h
  exact h
theorem ix_at {n j : Nat} (h : j < n) : ixN n ((j : Nat) : Int) = some j := by
  unfold ixN; simp; omega
theorem cut_ints (ns : List Int) (lo hi : Option Int) : ∃ ms : List Int, cutV (ns.map V.int) lo hi = ms.map V.int ∧ ms.length ≤ ns.length := by
  unfold cutV
  rw [← List.map_drop, ← List.map_take]
  exact ⟨_, rfl, by rw [List.length_take, List.length_drop]; omega⟩
theorem cut_nat (ks : List Int) (i j : Nat) : cutV (ks.map V.int) (some (i : Int)) (some (j : Int)) = ((ks.take j).drop i).map V.int := by
  unfold cutV
  rw [HT.sIx_nat, HT.sIx_nat, List.map_drop, List.map_take, List.length_map, List.drop_take]
  apply List.ext_getElem?
  intro m
  simp only [List.getElem?_take, List.getElem?_drop, List.getElem?_map]
  by_cases h1 : i ≤ ks.length
  · rw [Nat.min_eq_left h1]
    by_cases h2 : j ≤ ks.length
    · rw [Nat.min_eq_left h2]
    · rw [Nat.min_eq_right (by omega)]
      by_cases h3 : m < ks.length - i
      · rw [if_pos h3, if_pos (by omega)]
      · rw [if_neg h3]
        by_cases h4 : m < j - i
        · rw [if_pos h4, List.getElem?_eq_none (by omega)]; rfl
        · rw [if_neg h4]
  · rw [Nat.min_eq_right (show ks.length ≤ i by omega), if_neg (by omega)]
    by_cases h4 : m < j - i
    · rw [if_pos h4, List.getElem?_eq_none (by omega)]; rfl
    · rw [if_neg h4]
theorem cut_from (ks : List Int) (i : Nat) : cutV (ks.map V.int) (some (i : Int)) none = (ks.drop i).map V.int := by
  have h := cut_nat ks i ks.length
  unfold cutV at h ⊢
  rw [HT.sIx_nat, List.length_map] at h
  rw [HT.sIx_none, List.length_map]
  rw [List.take_length, HT.sIx_nat, Nat.min_self] at h
  rw [HT.sIx_nat]
  exact h
theorem cut_to (ks : List Int) (j : Nat) : cutV (ks.map V.int) none (some (j : Int)) = (ks.take j).map V.int := by
  have h := cut_nat ks 0 j
  rw [List.drop_zero] at h
  unfold cutV at h ⊢
  rw [HT.sIx_none]
  rw [HT.sIx_nat (k := 0), Nat.zero_min] at h
  exact h
theorem pick_ints (ks : List Int) (lo hi st : Option Int) : pickV (ks.map V.int) lo hi st = ((sliceRange (sliceBounds lo hi st ks.length).1 (sliceBounds lo hi st ks.length).2.1 (sliceBounds lo hi st ks.length).2.2).filterMap (ks[·]?)).map V.int := by
  unfold pickV
  rw [List.length_map, List.map_filterMap]
  congr 1
  funext j
  rw [List.getElem?_map]
theorem idx_perm : ∀ n < 31, ((sliceRange (sliceBounds (some 1) none (some 2) n).1 (sliceBounds (some 1) none (some 2) n).2.1 (sliceBounds (some 1) none (some 2) n).2.2 ++
    sliceRange (sliceBounds (some 0) none (some 2) n).1 (sliceBounds (some 0) none (some 2) n).2.1 (sliceBounds (some 0) none (some 2) n).2.2).isPerm (List.range n)) = true := by decide +kernel
theorem range_all (ks : List Int) : (List.range ks.length).filterMap (ks[·]?) = ks := by
  have h : ∀ n, n ≤ ks.length → (List.range n).filterMap (ks[·]?) = ks.take n := by
    intro n
    induction n with
    | zero => intro _; rfl
    | succ n ih =>
      intro hn
      have e : ks[n]? = some ks[n] := List.getElem?_eq_getElem (by omega)
      rw [List.range_succ, List.filterMap_append, ih (by omega), List.filterMap_cons_some e, List.filterMap_nil, List.take_add_one, e]; rfl
  rw [h _ (Nat.le_refl _), List.take_length]
theorem odd_even (ks : List Int) (h : ks.length ≤ 30) : ∃ row : List Int, pickV (ks.map V.int) (some 1) none (some 2) ++ pickV (ks.map V.int) (some 0) none (some 2) = row.map V.int ∧ row.Perm ks := by
  rw [pick_ints, pick_ints, ← List.map_append, ← List.filterMap_append]
  refine ⟨_, rfl, ?_⟩
  have p := (List.isPerm_iff.mp (idx_perm ks.length (by omega))).filterMap (ks[·]?)
  rw [range_all] at p
  exact p
theorem mid_perm (ks : List Int) (j : Nat) : ((ks.take j ++ ((ks.take (j + 3)).drop j).reverse) ++ ks.drop (j + 3)).Perm ks := by
  have e : (ks.take j ++ (ks.take (j + 3)).drop j) ++ ks.drop (j + 3) = ks := by
    have h1 : ks.take j ++ (ks.take (j + 3)).drop j = ks.take (j + 3) := by
      have h2 := List.take_append_drop j (ks.take (j + 3))
      rw [List.take_take, Nat.min_eq_left (by omega)] at h2
      exact h2
    rw [h1, List.take_append_drop]
  have p : ((ks.take j ++ ((ks.take (j + 3)).drop j).reverse) ++ ks.drop (j + 3)).Perm ((ks.take j ++ (ks.take (j + 3)).drop j) ++ ks.drop (j + 3)) :=
    (List.Perm.append_left _ (List.reverse_perm _)).append_right _
  rw [e] at p
  exact p
/-- a comprehension over reversed(t), t a tuple -/
theorem lc_rt {K : PySem.W.Frag} {a : Addr} {xs : List V} {g : TG} {tt : TT} {te : TE} {vs : List Nat} {σ : L2.St} {H1 : Hp} {D : Addr} {Qd : Hp → Prop} (Pv : Nat → Hp → Prop) (h0 : Pv 0 (upd H1 D (.lst []))) (hl : ∀ i H, i ≤ xs.length → Pv i H → SqT K H a xs)
    (hs : ∀ i x H, i < xs.length → xs[xs.length - 1 - i]? = some x → Pv i H → g x (wipe σ vs) H fun σ2 H2 => wipe σ2 vs = wipe σ vs ∧ tt σ2 H2 fun b H3 =>
      if b = true then te σ2 H3 fun y H4 => ∃ acc, H4 D = some (.lst acc) ∧ acc.length < sizeLine ∧ Pv (i + 1) (upd H4 D (.lst (acc ++ [y]))) else Pv (i + 1) H3) (hd : ∀ H, Pv xs.length H → Qd H) :
    ∃ W : Nat → Nat → Hp → Prop, (∃ m, W 0 m (upd H1 D (.lst []))) ∧ ∀ i m H, W i m H →
      ((RT.ItvT K a xs.length).stop i H ∧ Qd H) ∨ ((RT.ItvT K a xs.length).go i H ∧ ∃ Nx : Hp → Prop, (∀ H', Nx H' → ∃ m', m' < m ∧ W (i + 1) m' H') ∧ ∀ x H', (RT.ItvT K a xs.length).yld i H x H' → g x (wipe σ vs) H' fun σ2 H2 => wipe σ2 vs = wipe σ vs ∧ tt σ2 H2 fun b H3 =>
        if b = true then te σ2 H3 fun y H4 => ∃ acc, H4 D = some (.lst acc) ∧ acc.length < sizeLine ∧ Nx (upd H4 D (.lst (acc ++ [y]))) else Nx H3) := by
  refine ⟨fun i m H => m = xs.length - i ∧ i ≤ xs.length ∧ Pv i H, ⟨_, rfl, Nat.zero_le _, h0⟩, ?_⟩
  rintro i m H ⟨rfl, hi, p⟩
  rcases Nat.lt_or_ge i xs.length with lt | ge
  · have q := hl i H hi p
    have e : xs[xs.length - 1 - i]? = some xs[xs.length - 1 - i] := List.getElem?_eq_getElem (by omega)
    refine .inr ⟨⟨lt, xs, _, q, e⟩, Pv (i + 1), fun H' p' => ⟨xs.length - (i + 1), by omega, rfl, lt, p'⟩, ?_⟩
    rintro x H' ⟨rfl, hx⟩
    exact hs i x H' lt (hx xs q) p
  · obtain rfl : i = xs.length := by omega
    exact .inl ⟨ge, hd H p⟩
theorem sameT {K : PySem.W.Frag} {H H' : Hp} {a : Addr} {xs : List V} (e : Same H H') (h : SqT K H a xs) : SqT K H' a xs := by
  rcases h with (h | ⟨o, h⟩) | h
  · exact .inl (.inl (e _ _ h))
  · exact .inl (.inr ⟨o, e _ _ h⟩)
  · exact .inr h
/-- len of a list or tuple -/
def rLenQ (K : PySem.W.Frag) : List V → Hp → VK → Prop := fun xs H Q => ∃ p ys, xs = [.ref p] ∧ (SqL K H p ys ∨ SqT K H p ys) ∧ Q (.int ys.length) H
/-- a pure function of a row -/
def spRowFn (K : PySem.W.Frag) (f : List Int → List Int) : Sp := fun vs H Q _ => ∃ (a : Addr) (row : List Int), vs = [.ref a] ∧ SqT K H a (row.map V.int) ∧ RowOk row ∧ row.length ≤ 29 ∧
  ∀ (p : Addr) (H' : Hp), Same H H' → H p = none → H' p = some (.tup ((f row).map V.int)) → Q (.ref p) H'
theorem getI {ns : List Int} {i : Nat} {y : V} (h : (ns.map V.int)[i]? = some y) : ∃ z, ns[i]? = some z ∧ y = V.int z ∧ i < ns.length := by
  rw [List.getElem?_map] at h
  cases e : ns[i]? with
  | none => rw [e] at h; cases h
  | some z => rw [e] at h; exact ⟨z, rfl, (Option.some.inj h).symm, (List.getElem?_eq_some_iff.mp e).1⟩
theorem take_step {α : Type} {xs : List α} {i : Nat} {x : α} (h : xs[i]? = some x) : xs.take (i + 1) = xs.take i ++ [x] := by
  rw [List.take_add_one, h]; rfl
/-- all that was there stays, at D stands a list -/
def At (H1 H : Hp) (D : Addr) (ys : List V) : Prop := Same H1 H ∧ H D = some (.lst ys)
theorem At.nil {H1 : Hp} {D : Addr} (h : H1 D = none) : At H1 (upd H1 D (.lst [])) D [] := ⟨same_new h, upd_same⟩
theorem At.push {H1 H : Hp} {D : Addr} {ys : List V} (h : H1 D = none) (a : At H1 H D ys) (zs : List V) : At H1 (upd H D (.lst zs)) D zs :=
  ⟨fun b o e => by rw [upd_ne (ne_of_none e h)]; exact a.1 b o e, upd_same⟩
theorem erase_map {α β : Type} (f : α → β) : ∀ (xs : List α) (j : Nat), (xs.map f).eraseIdx j = (xs.eraseIdx j).map f
  | [], _ => rfl
  | _ :: _, 0 => rfl
  | x :: xs, j + 1 => congrArg (f x :: ·) (erase_map f xs j)
theorem erase_perm {α : Type} : ∀ (xs : List α) (j : Nat) (h : j < xs.length), (xs[j] :: xs.eraseIdx j).Perm xs
  | x :: xs, 0, _ => List.Perm.refl _
  | x :: xs, j + 1, h => (List.Perm.swap x _ _).trans ((erase_perm xs j (Nat.lt_of_succ_lt_succ h)).cons x)
/-- data of ints -/
theorem dp_ints {K : PySem.W.Frag} {H : Hp} : ∀ ns : List Int, DpAll K H (ns.map V.int) (ns.map PyData.int)
  | [] => .nil
  | n :: ns => .cons (.int n) (dp_ints ns)
theorem canLay_ints : ∀ ns : List Int, PyData.canLayAll0 (ns.map PyData.int) = true
  | [] => rfl
  | n :: ns => by simp only [List.map_cons, PyData.canLayAll0, PyData.canLay0, canLay_ints ns, Bool.and_self]
theorem depth_ints : ∀ ns : List Int, PyData.depthAll (ns.map PyData.int) = 0
  | [] => rfl
  | n :: ns => by simp only [List.map_cons, PyData.depthAll, PyData.depth, depth_ints ns, Nat.max_self]
theorem shaped_ints (ns : List Int) : SeqAt.shaped (.list (ns.map PyData.int)) = true := by
  simp [SeqAt.shaped, PyData.canLay0, canLay_ints, PyData.depth, depth_ints]
theorem shaped_tints (ns : List Int) : SeqAt.shaped (.tuple (ns.map PyData.int)) = true := by
  simp [SeqAt.shaped, PyData.canLay0, canLay_ints, PyData.depth, depth_ints]
theorem eqv_ints (ns ms : List Int) : PyData.eqv (.list (ns.map PyData.int)) (.list (ms.map PyData.int)) = decide (ns = ms) := by
  simp only [PyData.eqv]; exact PySem.W.ked_eqvAll ns ms
theorem eqv_tints (ns ms : List Int) : PyData.eqv (.tuple (ns.map PyData.int)) (.tuple (ms.map PyData.int)) = decide (ns = ms) := by
  simp only [PyData.eqv]; exact PySem.W.ked_eqvAll ns ms
/-- a list of ints against [], as data -/
theorem nonempty_data {K : PySem.W.Frag} {H : Hp} {a e : Addr} {ns : List Int} {Q : VK} (h1 : SqL K H a (ns.map V.int)) (h2 : SqL K H e []) (q : Q (.bl (!decide (ns = []))) H) : rNeD K (.ref a) (.ref e) H Q := by
  refine ⟨.list (ns.map PyData.int), .list [], .lst h1 (dp_ints ns), .lst h2 .nil, shaped_ints ns, shaped_ints [], ?_⟩
  rw [show PyData.eqv (.list (ns.map PyData.int)) (.list []) = decide (ns = []) from eqv_ints ns []]
  exact q
/-- the last two rows of a draw -/
def tLastDraw : TS := tSeq (sDPut (tVar 0) (tC (V.str "blend"))
    (tOp (rI (fun _ j => 0 < j) fun i j => V.int (i % j)) (tOp (rI0 fun i j => V.int (i + j)) (tOp (rI0 fun i j => V.int (i + j)) (tOp (rI CMul fun i j => V.int (i * j)) (tDGet (tVar 0) (tC (V.str "blend"))) (tC (V.int 48271)))
      (tOp (rI CMul fun i j => V.int (i * j)) (tC (V.int 11)) (tVar 3))) (tC (V.int 5))) (tC (V.int 2147483647))))
  (tRet (tOp (rI (fun _ j => 0 < j) fun i j => V.int (i % j)) (tOp (rI CDiv fun i j => V.int (i / j)) (tOp (rI (fun _ j => 0 < j) fun i j => V.int (i % j))
    (tOp (rI CMul fun i j => V.int (i * j)) (tDGet (tVar 0) (tC (V.str "blend"))) (tDGet (tVar 0) (tC (V.str "blend")))) (tC (V.int 2147483629))) (tC (V.int 32))) (tVar 1)))
theorem last_run {D : Ends} {H H2 : Hp} {d c : Addr} {m t u b2 : Int} {x4 x5 : Option V} {cells : List Int} (hm0 : 0 < m) (hd : H2 d = some (.dK (supD c u b2))) (hc : H2 c = some (.lst (cells.map V.int))) (hl : cells.length ≤ 63) (sx : SameX H H2 d c) (hb0 : 0 ≤ b2) (hb : b2 < 2147483647)
    (k : ∀ (r : Int) (H' : Hp), 0 ≤ r → r < m → Sup H' d c → SameX H H' d c → D.rt (.int r) H') : tLastDraw D [some (.ref d), some (.int m), some (.ref c), some (.int t), x4, x5] H2 := by
  have ndc : d ≠ c := ne_of hd hc (fun z => nomatch z)
  refine ⟨_, rfl, d, _, rfl, sup_get hd (sup_blend c u b2), _, _, rfl, rfl, .inl ⟨by omega, by omega⟩, _, rfl, _, _, rfl, rfl, .inl ⟨by decide, by decide⟩, _, _, rfl, rfl, _, _, rfl, rfl, _, _, rfl, rfl, (by show (0 : Int) < 2147483647; decide), _, rfl, d, _, rfl, sup_setB hd, ?_⟩
  have hb1 := emod_in (a := b2 * 48271 + 11 * t + 5) (m := 2147483647) (by decide)
  generalize (b2 * 48271 + 11 * t + 5) % 2147483647 = b3 at hb1 ⊢
  have hd3 : upd H2 d (.dK (supD c u b3)) d = some (.dK (supD c u b3)) := upd_same
  have hc3 : upd H2 d (.dK (supD c u b3)) c = some (.lst (cells.map V.int)) := by rw [upd_ne ndc.symm]; exact hc
  have sx3 : SameX H (upd H2 d (.dK (supD c u b3))) d c := fun x o h1 h2 e => by rw [upd_ne h1]; exact sx x o h1 h2 e
  refine ⟨_, rfl, d, _, rfl, sup_get hd3 (sup_blend c u b3), _, rfl, d, _, rfl, sup_get hd3 (sup_blend c u b3), _, _, rfl, rfl, .inl ⟨by omega, by omega⟩, _, _, rfl, rfl, (by show (0 : Int) < 2147483629; decide), _, _, rfl, rfl, ⟨by decide, by decide⟩, _, rfl, _, _, rfl, rfl, hm0, ?_⟩
  exact k _ _ (emod_in hm0).1 (emod_in hm0).2 ⟨cells, u, b3, hd3, hc3, hl, hb1.1, hb1.2⟩ sx3
end KX

namespace KX
open PySem PySem.Spec L2
open PyProof.Rows hiding St
/-! data that repr shows -/
structure FineD (d : PyData) (dep B : Nat) : Prop where
  nd : d.hasDict = false
  sh : d.showable = true
  dp : d.depth ≤ dep
  sz : d.shown.length ≤ B
theorem FineD.int {i : Int} (h : i.natAbs < 10 ^ 13) : FineD (.int i) 0 14 := by
  refine ⟨rfl, ?_, Nat.le_refl _, ?_⟩
  · simp only [PyData.showable, decide_eq_true_eq]
    have h2 : i.natAbs < 2 ^ 1920 := Nat.lt_trans h (by decide)
    rcases Nat.eq_zero_or_pos i.natAbs with z | z
    · rw [z]; decide
    · exact (Nat.log2_lt (by omega)).mpr h2
  · show (Str.ofString (toString i)).length ≤ 14
    rw [PySem.ofString_length]; exact int_text_length_le10 (k := 13) (by decide) h
theorem FineD.bool (b : Bool) : FineD (.bool b) 0 5 := ⟨rfl, rfl, Nat.le_refl _, by cases b <;> decide⟩
theorem FineD.none : FineD .none 0 4 := ⟨rfl, rfl, Nat.le_refl _, by decide⟩
theorem FineD.mono {d : PyData} {n m A B : Nat} (h : FineD d n A) (h1 : n ≤ m) (h2 : A ≤ B) : FineD d m B := ⟨h.nd, h.sh, Nat.le_trans h.dp h1, Nat.le_trans h.sz h2⟩
theorem fine_all {dep B : Nat} : ∀ {ds : List PyData}, (∀ d ∈ ds, FineD d dep B) → PyData.hasDictAll ds = false ∧ PyData.showableAll ds = true ∧ PyData.depthAll ds ≤ dep ∧ ((PyData.shownAll ds).map (·.length)).sum ≤ ds.length * B ∧ (PyData.shownAll ds).length = ds.length
  | [], _ => ⟨rfl, rfl, Nat.zero_le _, Nat.zero_le _, rfl⟩
  | d :: ds, h => by
    obtain ⟨a1, a2, a3, a4, a5⟩ := fine_all (ds := ds) fun x hx => h x (List.mem_cons_of_mem _ hx)
    have hd := h d List.mem_cons_self
    refine ⟨by simp only [PyData.hasDictAll, hd.nd, a1, Bool.or_self], by simp only [PyData.showableAll, hd.sh, a2, Bool.and_self], ?_, ?_, by simp only [PyData.shownAll, List.length_cons, a5]⟩
    · simp only [PyData.depthAll]; exact Nat.max_le.mpr ⟨hd.dp, a3⟩
    · simp only [PyData.shownAll, List.map_cons, List.sum_cons, List.length_cons]
      have := hd.sz
      rw [Nat.add_mul]; omega
theorem FineD.tup {ds : List PyData} {dep B : Nat} (h : ∀ d ∈ ds, FineD d dep B) : FineD (.tuple ds) (dep + 1) (ds.length * (B + 2) + 3) := by
  obtain ⟨a1, a2, a3, a4, a5⟩ := fine_all h
  refine ⟨by simp only [PyData.hasDict, a1], by simp only [PyData.showable, a2], by simp only [PyData.depth]; omega, ?_⟩
  have := tupleText_len_le (PyData.shownAll ds)
  rw [a5] at this
  simp only [PyData.shown]
  rw [Nat.mul_add]; omega
theorem FineD.lst {ds : List PyData} {dep B : Nat} (h : ∀ d ∈ ds, FineD d dep B) : FineD (.list ds) (dep + 1) (ds.length * (B + 2) + 3) := by
  obtain ⟨a1, a2, a3, a4, a5⟩ := fine_all h
  refine ⟨by simp only [PyData.hasDict, a1], by simp only [PyData.showable, a2], by simp only [PyData.depth]; omega, ?_⟩
  have := listText_len_le (PyData.shownAll ds)
  rw [a5] at this
  simp only [PyData.shown]
  rw [Nat.mul_add]; omega
/-- a tuple of few small ints -/
theorem fine_row {ns : List Int} (hl : ns.length ≤ 60) (h : ∀ k ∈ ns, k.natAbs < 10 ^ 13) : FineD (.tuple (ns.map PyData.int)) 1 1000 := by
  have := FineD.tup (ds := ns.map PyData.int) (dep := 0) (B := 14) fun d hd => by
    obtain ⟨k, hk, rfl⟩ := List.mem_map.mp hd
    exact .int (h k hk)
  rw [List.length_map] at this
  exact this.mono (Nat.le_refl _) (by omega)
theorem rRepr_of {K : PySem.W.Frag} {H : Hp} {v : V} {d : PyData} {dep B : Nat} {Q : VK} (h : Dp K H v d) (f : FineD d dep B) (h1 : dep ≤ 60) (h2 : B ≤ sizeLine) (q : Q (.str d.shown) H) : rRepr K [v] H Q :=
  ⟨v, d, rfl, h, f.nd, f.sh, Nat.le_trans f.dp h1, Nat.le_trans f.sz h2, q⟩
theorem RowOk.small {row : List Int} (h : RowOk row) : ∀ k ∈ row, k.natAbs < 10 ^ 13 := fun k hk => by
  have := h.key k hk
  omega
end KX

namespace KX
open PySem PySem.Spec L2
open PyProof.Rows hiding St
/-! data with small dicts in it -/
def kvA (kvs : List (Str × Int)) : List (Key × V) := kvs.map fun p => (.inr p.1, .int p.2)
def kvD (kvs : List (Str × Int)) : List (PyData × PyData) := kvs.map fun p => (.str p.1, .int p.2)
mutual
inductive Dq (K : PySem.W.Frag) (H : Hp) : V → PyData → Prop
  | non : Dq K H .non .none
  | bl (b : Bool) : Dq K H (.bl b) (.bool b)
  | int (i : Int) : Dq K H (.int i) (.int i)
  | str (x : Str) : Dq K H (.str x) (.str x)
  | lst {a : Addr} {xs : List V} {ds : List PyData} : SqL K H a xs → DqAll K H xs ds → Dq K H (.ref a) (.list ds)
  | tup {a : Addr} {xs : List V} {ds : List PyData} : SqT K H a xs → DqAll K H xs ds → Dq K H (.ref a) (.tuple ds)
  | dct {a : Addr} {kvs : List (Str × Int)} : H a = some (.dK (kvA kvs)) → Dq K H (.ref a) (.dict (kvD kvs))
inductive DqAll (K : PySem.W.Frag) (H : Hp) : List V → List PyData → Prop
  | nil : DqAll K H [] []
  | cons {v : V} {vs : List V} {d : PyData} {ds : List PyData} : Dq K H v d → DqAll K H vs ds → DqAll K H (v :: vs) (d :: ds)
end
mutual
theorem Dq.same {K : PySem.W.Frag} {H H' : Hp} (s : Same H H') : ∀ {v : V} {d : PyData}, Dq K H v d → Dq K H' v d
  | _, _, .non => .non
  | _, _, .bl b => .bl b
  | _, _, .int i => .int i
  | _, _, .str x => .str x
  | _, _, .lst h a => .lst (s.seq h) (DqAll.same s a)
  | _, _, .tup h a => .tup (sameT s h) (DqAll.same s a)
  | _, _, .dct h => .dct (s _ _ h)
theorem DqAll.same {K : PySem.W.Frag} {H H' : Hp} (s : Same H H') : ∀ {vs : List V} {ds : List PyData}, DqAll K H vs ds → DqAll K H' vs ds
  | _, _, .nil => .nil
  | _, _, .cons h t => .cons (Dq.same s h) (DqAll.same s t)
end
theorem dq_ints {K : PySem.W.Frag} {H : Hp} : ∀ ns : List Int, DqAll K H (ns.map V.int) (ns.map PyData.int)
  | [] => .nil
  | n :: ns => .cons (.int n) (dq_ints ns)
section
variable {X : Cx} {pins : List (Addr × Obj)} {σ : L2.St} {H : Hp} {s : Shared}
/-- the entries of such a dict -/
theorem entries_of : ∀ {kvs : List (Str × Int)} {vs : List (Key × Value)} {es : List DictEntry}, KV (kvA kvs) vs → Pairs (mixKind X.prog X.w) es vs →
    Paired (fun (p : Str × Int) (e : DictEntry) => (∃ t, e.key = .str p.1 t) ∧ ∃ t, e.val = .int p.2 t) kvs es
  | [], _, _, r, q => by
    cases r
    cases q
    exact .nil
  | p :: kvs, _, _, r, q => by
    cases r with
    | cons h t =>
      cases q with
      | cons h1 h2 h3 =>
        obtain ⟨e1, tv, e2⟩ := h
        refine .cons ⟨?_, tv, h2.trans e2⟩ (entries_of t h3)
        rw [← e1] at h1
        exact Value.isStrOf_shape h1
theorem keys_read {h : Heap} : ∀ {kvs : List (Str × Int)} {es : List DictEntry}, Paired (fun (p : Str × Int) (e : DictEntry) => (∃ t, e.key = .str p.1 t) ∧ ∃ t, e.val = .int p.2 t) kvs es →
    ReadsAll h (es.map (·.key)) ((kvD kvs).map (·.1)) [] ∧ ReadsAll h (es.map (·.val)) ((kvD kvs).map (·.2)) []
  | _, _, .nil => ⟨.nil, .nil⟩
  | _, _, .cons ⟨⟨t, h1⟩, ⟨u, h2⟩⟩ r => by
    obtain ⟨q1, q2⟩ := keys_read r
    refine ⟨?_, ?_⟩
    · exact .cons (as := []) (bs := []) (Eq.mpr (congrArg (fun z => Reads h z _ []) h1) (.str _ t)) q1
    · exact .cons (as := []) (bs := []) (Eq.mpr (congrArg (fun z => Reads h z _ []) h2) (.int _ u)) q2
/-- the object of such a dict -/
theorem dict_obj (I : Inv X pins σ H s) {a : Addr} {kvs : List (Str × Int)} (h : H a = some (.dK (kvA kvs))) :
    ∃ o es n, s.heap.get? a = some o ∧ o.cls = .type "dict" ∧ o.data = .dict es n ∧ (a == sysModules) = false ∧ ReadsAll s.heap (es.toList.map (·.key)) ((kvD kvs).map (·.1)) [] ∧ ReadsAll s.heap (es.toList.map (·.val)) ((kvD kvs).map (·.2)) [] := by
  obtain ⟨_, hsys, vs, r, o, es, ep, h1, h2, h3, _, h4, _⟩ := dk_of I.hok h
  obtain ⟨q1, q2⟩ := keys_read (h := s.heap) (entries_of r h4)
  exact ⟨o, es, ep, h1, h2.1, h3, hsys, q1, q2⟩
mutual
theorem Dq.reads (I : Inv X pins σ H s) : ∀ (d : PyData) (v : V) (u : Value), Dq X.K H v d → RelV v u → ∃ as, Reads s.heap u d as
  | .none, _, _, h, r => by cases h; cases r; exact ⟨_, .none⟩
  | .bool b, _, _, h, r => by cases h; cases r; exact ⟨_, .bool b⟩
  | .int i, _, _, h, r => by cases h; obtain ⟨t, rfl⟩ := r; exact ⟨_, .int i t⟩
  | .str x, _, _, h, r => by cases h; obtain ⟨t, rfl⟩ := r; exact ⟨_, .str x t⟩
  | .list ds, _, _, h, r => by
    cases h with
    | lst hs ha =>
      cases r
      obtain ⟨its, rv, ⟨o, n, ho, hc, _, hd⟩, _⟩ := I.list hs
      obtain ⟨as, hr⟩ := DqAll.reads I ds _ its ha rv
      exact ⟨_, .list ho hc hd hr⟩
  | .tuple ds, _, _, h, r => by
    cases h with
    | tup hs ha =>
      cases r
      obtain ⟨its, rv, ⟨o, ho, hc, n, hd⟩, _⟩ := I.tuple hs
      obtain ⟨as, hr⟩ := DqAll.reads I ds _ its ha rv
      exact ⟨_, .tuple ho hc hd hr⟩
  | .dict kd, _, _, h, r => by
    cases h with
    | dct h =>
      cases r
      obtain ⟨o, es, n, h1, h2, h3, _, q1, q2⟩ := dict_obj I h
      exact ⟨_, .dict h1 h2 h3 q1 q2⟩
theorem DqAll.reads (I : Inv X pins σ H s) : ∀ (ds : List PyData) (vs : List V) (us : List Value), DqAll X.K H vs ds → Vals vs us → ∃ as, ReadsAll s.heap us ds as
  | [], _, _, h, r => by cases h; cases r; exact ⟨_, .nil⟩
  | d :: ds, _, _, h, r => by
    cases h with
    | cons h1 h2 =>
      cases r with
      | cons r1 r2 =>
        obtain ⟨as, q1⟩ := Dq.reads I d _ _ h1 r1
        obtain ⟨bs, q2⟩ := DqAll.reads I ds _ _ h2 r2
        exact ⟨_, .cons q1 q2⟩
end
/-- no dict in it: the library's way -/
theorem reprK_flat {h : Heap} {prog : Program} {w : World} {v : Value} {d : PyData} {as : List Addr} (r : Reads h v d as) (hn : d.hasDict = false) (hs : d.showable = true) (hz : d.shown.length ≤ sizeLine) : ∃ bs, ReadAtMost h d.depth bs ∧ ReprK prog w bs h d.depth v d.shown :=
  ReprK.of_reads r hs (PyData.noDict_hsm hn) hz
theorem dict_reprs (I : Inv X pins σ H s) {a : Addr} {kvs : List (Str × Int)} (h : H a = some (.dK (kvA kvs))) (hs : (PyData.dict (kvD kvs)).showable = true) (hz : (PyData.dict (kvD kvs)).shown.length ≤ sizeLine) :
    ∃ o es n, s.heap.get? a = some o ∧ o.cls = .type "dict" ∧ o.data = .dict es n ∧ (a == sysModules) = false ∧ ∃ bs, ReadAtMost s.heap (PyData.depthKv (kvD kvs)) bs ∧ ReprEntriesK X.prog X.w bs s.heap (PyData.depthKv (kvD kvs)) es.toList (PyData.shownKv (kvD kvs)) ∧ ∃ as, Reads s.heap (.ref a) (.dict (kvD kvs)) as := by
  obtain ⟨o, es, n, h1, h2, h3, hsys, q1, q2⟩ := dict_obj I h
  have hz' : (dictText (PyData.shownKv (kvD kvs))).length ≤ sizeLine := by simpa only [PyData.shown] using hz
  obtain ⟨hs1, hs2⟩ := PyData.showableKv_split (kvD kvs) (by simpa [PyData.showable] using hs)
  have flat : ∀ (f : Str × Int → PyData), (∀ p, (f p).hasDict = false) → ∀ l : List (Str × Int), PyData.hasDictAll (l.map f) = false := fun f hf l => by
    induction l with
    | nil => rfl
    | cons p l ih => simp only [List.map_cons, PyData.hasDictAll, hf, ih, Bool.or_self]
  have n1 : PyData.hasDictAll ((kvD kvs).map (·.1)) = false := by unfold kvD; rw [List.map_map]; exact flat _ (fun _ => rfl) kvs
  have n2 : PyData.hasDictAll ((kvD kvs).map (·.2)) = false := by unfold kvD; rw [List.map_map]; exact flat _ (fun _ => rfl) kvs
  obtain ⟨b1, hb1, k1⟩ := ReprAllK.of_readsAll (prog := X.prog) (w := X.w) q1 hs1 (fun z => by rw [n1] at z; cases z) (fun t ht => by
    obtain ⟨p, hp, hl⟩ := PyData.shownKv_key_le (kvD kvs) t ht
    exact Nat.le_trans hl (Nat.le_trans (dictText_mem_le hp) hz'))
  obtain ⟨b2, hb2, k2⟩ := ReprAllK.of_readsAll (prog := X.prog) (w := X.w) q2 hs2 (fun z => by rw [n2] at z; cases z) (fun t ht => by
    obtain ⟨p, hp, hl⟩ := PyData.shownKv_val_le (kvD kvs) t ht
    exact Nat.le_trans hl (Nat.le_trans (dictText_mem_le hp) hz'))
  refine ⟨o, es, n, h1, h2, h3, hsys, b1 ++ b2, (hb1.mono (PyData.depthAll_keys_le _)).append (hb2.mono (PyData.depthAll_vals_le _)), ?_, _, .dict h1 h2 h3 q1 q2⟩
  rw [PyData.shownKv_eq]
  exact ReprEntriesK.of_two _ _ _ (k1.more_le (fun _ z => List.mem_append_left _ z) (PyData.depthAll_keys_le _)) (k2.more_le (fun _ z => List.mem_append_right _ z) (PyData.depthAll_vals_le _))
mutual
theorem Dq.reprs (I : Inv X pins σ H s) : ∀ (d : PyData) (v : V) (u : Value), Dq X.K H v d → RelV v u → d.showable = true → d.shown.length ≤ sizeLine → ∃ bs, ReadAtMost s.heap d.depth bs ∧ ReprK X.prog X.w bs s.heap d.depth u d.shown
  | .none, v, u, h, r, hs, hz => by obtain ⟨as, q⟩ := Dq.reads I _ _ _ h r; exact reprK_flat q rfl hs hz
  | .bool b, v, u, h, r, hs, hz => by obtain ⟨as, q⟩ := Dq.reads I _ _ _ h r; exact reprK_flat q rfl hs hz
  | .int i, v, u, h, r, hs, hz => by obtain ⟨as, q⟩ := Dq.reads I _ _ _ h r; exact reprK_flat q rfl hs hz
  | .str x, v, u, h, r, hs, hz => by obtain ⟨as, q⟩ := Dq.reads I _ _ _ h r; exact reprK_flat q rfl hs hz
  | .list ds, v, u, h, r, hs, hz => by
    cases h with
    | @lst a xs ds hl ha =>
      cases r
      obtain ⟨its, rv, ⟨o, n, ho, hc, _, hd⟩, _⟩ := I.list hl
      obtain ⟨as, hr⟩ := DqAll.reads I ds _ its ha rv
      obtain ⟨bs, hb, hk⟩ := DqAll.reprs I ds _ its ha rv (by simpa [PyData.showable] using hs) fun t ht => Nat.le_trans (listText_mem_le ht) (by simpa only [PyData.shown] using hz)
      have q : Reads s.heap (.ref a) (.list ds) _ := .list ho hc hd hr
      have hna : a ∉ bs := not_mem_of_deeper q (by simp only [PyData.depth]; omega) hb
      refine ⟨a :: bs, .cons q (by simp only [PyData.depth]; omega) hb, ?_⟩
      simp only [PyData.depth, PyData.shown]
      cases its with
      | nil =>
        cases rv
        cases ha
        simp only [PyData.shownAll, listText_nil]
        exact ReprK.listEmpty ho hc hd
      | cons y l => exact ReprK.list ho hc hd hna (by simpa using hk.length_eq) fun i z e => hk.item i z (by simpa using e)
  | .tuple ds, v, u, h, r, hs, hz => by
    cases h with
    | @tup a xs ds hl ha =>
      cases r
      obtain ⟨its, rv, ⟨o, ho, hc, n, hd⟩, _⟩ := I.tuple hl
      obtain ⟨as, hr⟩ := DqAll.reads I ds _ its ha rv
      obtain ⟨bs, hb, hk⟩ := DqAll.reprs I ds _ its ha rv (by simpa [PyData.showable] using hs) fun t ht => Nat.le_trans (tupleText_mem_le ht) (by simpa only [PyData.shown] using hz)
      have q : Reads s.heap (.ref a) (.tuple ds) _ := .tuple ho hc hd hr
      have hna : a ∉ bs := not_mem_of_deeper q (by simp only [PyData.depth]; omega) hb
      refine ⟨a :: bs, .cons q (by simp only [PyData.depth]; omega) hb, ?_⟩
      simp only [PyData.depth, PyData.shown]
      exact ReprK.tuple ho hc hd hna hk
  | .dict kd, v, u, h, r, hs, hz => by
    cases h with
    | @dct a kvs h =>
      cases r
      obtain ⟨o, es, n, h1, h2, h3, hsys, bs, hb, hE, as, q⟩ := dict_reprs I h hs hz
      have hna : a ∉ bs := not_mem_of_deeper q (by simp only [PyData.depth]; omega) hb
      refine ⟨a :: bs, .cons q (by simp only [PyData.depth]; omega) hb, ?_⟩
      simp only [PyData.depth, PyData.shown]
      exact ReprK.dict h1 h2 h3 hsys hna hE
theorem DqAll.reprs (I : Inv X pins σ H s) : ∀ (ds : List PyData) (vs : List V) (us : List Value), DqAll X.K H vs ds → Vals vs us → PyData.showableAll ds = true → (∀ t ∈ PyData.shownAll ds, t.length ≤ sizeLine) → ∃ bs, ReadAtMost s.heap (PyData.depthAll ds) bs ∧ ReprAllK X.prog X.w bs s.heap (PyData.depthAll ds) us (PyData.shownAll ds)
  | [], _, _, h, r, _, _ => by
    cases h
    cases r
    exact ⟨[], (fun _ z => nomatch z), .nil⟩
  | d :: ds, _, _, h, r, hs, hz => by
    cases h with
    | cons h1 h2 =>
      cases r with
      | cons r1 r2 =>
        have hs' : d.showable = true ∧ PyData.showableAll ds = true := by simpa [PyData.showableAll] using hs
        obtain ⟨b1, hb1, k1⟩ := Dq.reprs I d _ _ h1 r1 hs'.1 (hz _ (by simp only [PyData.shownAll]; exact List.mem_cons_self))
        obtain ⟨b2, hb2, k2⟩ := DqAll.reprs I ds _ _ h2 r2 hs'.2 fun t ht => hz t (by simp only [PyData.shownAll]; exact List.mem_cons_of_mem _ ht)
        refine ⟨b1 ++ b2, ?_, ?_⟩
        · simp only [PyData.depthAll]
          exact (hb1.mono (Nat.le_max_left _ _)).append (hb2.mono (Nat.le_max_right _ _))
        · simp only [PyData.depthAll, PyData.shownAll]
          exact .cons ((k1.more fun _ z => List.mem_append_left _ z).level_le (Nat.le_max_left _ _)) (k2.more_le (fun _ z => List.mem_append_right _ z) (Nat.le_max_right _ _))
end
end
section
variable {X : Cx}
/-- repr of such data -/
def rReprQ (K : PySem.W.Frag) : List V → Hp → VK → Prop := fun vs H Q => ∃ v d, vs = [v] ∧ Dq K H v d ∧ d.showable = true ∧ d.depth ≤ 60 ∧ d.shown.length ≤ sizeLine ∧ Q (.str d.shown) H
theorem cr_reprQ (hgd : X.A.guards = some []) (hu : X.A.units + 64 < cLine) : CallR X (.builtin "repr") (rReprQ X.K) := by
  intro pins s σ H vs us Q I r ⟨v, d, e, hd, hs, h60, hz, q⟩
  subst e
  obtain ⟨u, rfl, rv⟩ := vals1 r
  have fin : ∀ (h' : Heap) (t : Tok) (tk : Nat), (∀ b o, s.heap.get? b = some o → h'.get? b = some o) → EP X pins σ Q (.str d.shown t) { s with heap := h', toks := tk } := fun h' t tk hk => ⟨.str d.shown, H, I.kept hk, ⟨t, rfl⟩, q⟩
  have fin0 := fin s.heap s.toks (s.toks + 1) fun _ _ z => z
  have hg1 : X.A.in1.guards = some [] := hgd
  cases hd with
  | non => cases rv; exact P.repr_of_none fin0
  | bl b => cases rv; exact P.repr_of_bool (by simpa only [PyData.shown] using fin0)
  | int i => obtain ⟨t, rfl⟩ := rv; exact P.repr_of_int (by simpa [PyData.showable] using hs) (by simpa only [PyData.shown] using fin0)
  | str x => obtain ⟨t, rfl⟩ := rv; exact P.repr_of_str (by simpa only [PyData.shown] using fin0) (by simpa only [PyData.shown] using hz)
  | @lst a xs ds hl ha =>
    cases rv
    obtain ⟨its, rv, ⟨o, n, ho, hc, _, hd⟩, _⟩ := I.list hl
    obtain ⟨as, hr⟩ := DqAll.reads I ds _ its ha rv
    have hz' : (listText (PyData.shownAll ds)).length ≤ sizeLine := by simpa only [PyData.shown] using hz
    obtain ⟨bs, hb, hk⟩ := DqAll.reprs I ds _ its ha rv (by simpa [PyData.showable] using hs) fun t ht => Nat.le_trans (listText_mem_le ht) hz'
    have q2 : Reads s.heap (.ref a) (.list ds) _ := .list ho hc hd hr
    have hna : a ∉ bs := not_mem_of_deeper q2 (by simp only [PyData.depth]; omega) hb
    simp only [PyData.depth] at h60
    simp only [PyData.shown] at fin
    refine call_repr_slot (by omega) ⟨o, ho, hc⟩ F.slot_list_repr.toG ?_
    cases its with
    | nil =>
      cases rv
      cases ha
      exact call_list_repr_empty ⟨o, ho, hc⟩ ho hd ⟨_, _, rfl, by have := fin s.heap s.toks (s.toks + 1) fun _ _ z => z; simpa only [PyData.shownAll, listText_nil] using this⟩
    | cons y l => exact call_list_reprK ho hc hd hna (by simpa using hk.length_eq) (fun i z e => hk.item i z (by simpa using e)) hg1 (fun b _ => Clear.nil b) (by show X.A.units + 1 + (_ + 1) < cLine; omega) (fun _ _ z => z) (fun h' t tk hk' => ⟨_, _, rfl, fin h' t tk hk'⟩) hz'
  | @tup a xs ds hl ha =>
    cases rv
    obtain ⟨its, rv, ⟨o, ho, hc, n, hd⟩, _⟩ := I.tuple hl
    obtain ⟨as, hr⟩ := DqAll.reads I ds _ its ha rv
    have hz' : (tupleText (PyData.shownAll ds)).length ≤ sizeLine := by simpa only [PyData.shown] using hz
    obtain ⟨bs, hb, hk⟩ := DqAll.reprs I ds _ its ha rv (by simpa [PyData.showable] using hs) fun t ht => Nat.le_trans (tupleText_mem_le ht) hz'
    have q2 : Reads s.heap (.ref a) (.tuple ds) _ := .tuple ho hc hd hr
    have hna : a ∉ bs := not_mem_of_deeper q2 (by simp only [PyData.depth]; omega) hb
    simp only [PyData.depth] at h60
    simp only [PyData.shown] at fin
    refine call_repr_slot (by omega) ⟨o, ho, hc⟩ F.slot_tuple_repr ?_
    exact call_tuple_reprK ho hc hd hna hk hg1 (fun b _ => Clear.nil b) (by show X.A.units + 1 + (_ + 1) < cLine; omega) (fun _ _ z => z) (fun h' t tk hk' => ⟨_, _, rfl, fin h' t tk hk'⟩) hz'
  | @dct a kvs h =>
    cases rv
    obtain ⟨o, es, n, h1, h2, h3, hsys, bs, hb, hE, as, q2⟩ := dict_reprs I h hs hz
    have hna : a ∉ bs := not_mem_of_deeper q2 (by simp only [PyData.depth]; omega) hb
    have hz' : (dictText (PyData.shownKv (kvD kvs))).length ≤ sizeLine := by simpa only [PyData.shown] using hz
    simp only [PyData.depth] at h60
    simp only [PyData.shown] at fin
    refine call_repr_slot (by omega) ⟨o, h1, h2⟩ F.slot_dict_repr ?_
    exact call_dict_reprK h1 h2 h3 hsys hna hE hg1 (fun b _ => Clear.nil b) (by show X.A.units + 1 + (_ + 1) < cLine; omega) (fun _ _ z => z) (fun h' t tk hk' => ⟨_, _, rfl, fin h' t tk hk'⟩) hz'
end
end KX

namespace KX
open PySem PySem.Spec L2
open PyProof.Rows hiding St
/-! values beside the store -/
def hideX (H : Hp) (d c : Addr) : Hp := fun b => if b = d ∨ b = c then none else H b
theorem hide_at {H : Hp} {d c b : Addr} (h1 : b ≠ d) (h2 : b ≠ c) : hideX H d c b = H b := if_neg fun z => z.elim h1 h2
theorem hide_of {H : Hp} {d c b : Addr} {o : HO} (h : hideX H d c b = some o) : b ≠ d ∧ b ≠ c ∧ H b = some o := by
  unfold hideX at h
  split at h
  · cases h
  · rename_i q
    exact ⟨fun z => q (.inl z), fun z => q (.inr z), h⟩
theorem hide_same {H : Hp} {d c : Addr} : Same (hideX H d c) H := fun _ _ h => (hide_of h).2.2
theorem hide_mono {H H' : Hp} {d c : Addr} (x : SameX H H' d c) : Same (hideX H d c) (hideX H' d c) := fun b o h => by
  obtain ⟨h1, h2, h3⟩ := hide_of h
  rw [hide_at h1 h2]
  exact x b o h1 h2 h3
theorem hide_new {H : Hp} {d c p : Addr} {o : HO} (S : Sup H d c) (h : H p = none) : hideX (upd H p o) d c p = some o := by
  have h1 : p ≠ d := fun z => S.hasD (z ▸ h)
  have h2 : p ≠ c := fun z => S.hasC (z ▸ h)
  rw [hide_at h1 h2]; exact upd_same
theorem new_step {H : Hp} {d c p : Addr} {o : HO} (S : Sup H d c) (h : H p = none) : Sup (upd H p o) d c ∧ SameX H (upd H p o) d c ∧ hideX (upd H p o) d c p = some o :=
  ⟨S.same (same_new h), .of d c (same_new h), hide_new S h⟩
def Val (K : PySem.W.Frag) (H : Hp) (d c : Addr) (v : V) (dd : PyData) : Prop := Dq K (hideX H d c) v dd
theorem Val.mono {K : PySem.W.Frag} {H H' : Hp} {d c : Addr} {v : V} {dd : PyData} (h : Val K H d c v dd) (x : SameX H H' d c) : Val K H' d c v dd := Dq.same (hide_mono x) h
theorem Val.dq {K : PySem.W.Frag} {H : Hp} {d c : Addr} {v : V} {dd : PyData} (h : Val K H d c v dd) : Dq K H v dd := Dq.same hide_same h
theorem dqAll_mem {K : PySem.W.Frag} {H : Hp} : ∀ {vs : List V} {ds : List PyData}, DqAll K H vs ds → ∀ v ∈ vs, ∃ dd ∈ ds, Dq K H v dd
  | _, _, .nil, _, h => nomatch h
  | _, _, .cons h t, v, hv => by
    rcases List.mem_cons.mp hv with e | hv
    · subst e; exact ⟨_, List.mem_cons_self, h⟩
    · obtain ⟨dd, h1, h2⟩ := dqAll_mem t v hv
      exact ⟨dd, List.mem_cons_of_mem _ h1, h2⟩
theorem DqAll.app {K : PySem.W.Frag} {H : Hp} : ∀ {vs ws : List V} {ds es : List PyData}, DqAll K H vs ds → DqAll K H ws es → DqAll K H (vs ++ ws) (ds ++ es)
  | _, _, _, _, .nil, h => h
  | _, _, _, _, .cons h t, q => .cons h (DqAll.app t q)
theorem dqAll_len {K : PySem.W.Frag} {H : Hp} : ∀ {vs : List V} {ds : List PyData}, DqAll K H vs ds → vs.length = ds.length
  | _, _, .nil => rfl
  | _, _, .cons _ t => congrArg (· + 1) (dqAll_len t)
/-- what repr asks -/
structure FineQ (d : PyData) (dep B : Nat) : Prop where
  sh : d.showable = true
  dp : d.depth ≤ dep
  sz : d.shown.length ≤ B
theorem FineD.q {d : PyData} {n B : Nat} (h : FineD d n B) : FineQ d n B := ⟨h.sh, h.dp, h.sz⟩
theorem FineQ.mono {d : PyData} {n m A B : Nat} (h : FineQ d n A) (h1 : n ≤ m) (h2 : A ≤ B) : FineQ d m B := ⟨h.sh, Nat.le_trans h.dp h1, Nat.le_trans h.sz h2⟩
theorem fineq_all {dep B : Nat} : ∀ {ds : List PyData}, (∀ d ∈ ds, FineQ d dep B) → PyData.showableAll ds = true ∧ PyData.depthAll ds ≤ dep ∧ ((PyData.shownAll ds).map (·.length)).sum ≤ ds.length * B ∧ (PyData.shownAll ds).length = ds.length
  | [], _ => ⟨rfl, Nat.zero_le _, Nat.zero_le _, rfl⟩
  | d :: ds, h => by
    obtain ⟨a2, a3, a4, a5⟩ := fineq_all (ds := ds) fun x hx => h x (List.mem_cons_of_mem _ hx)
    have hd := h d List.mem_cons_self
    refine ⟨by simp only [PyData.showableAll, hd.sh, a2, Bool.and_self], ?_, ?_, by simp only [PyData.shownAll, List.length_cons, a5]⟩
    · simp only [PyData.depthAll]; exact Nat.max_le.mpr ⟨hd.dp, a3⟩
    · simp only [PyData.shownAll, List.map_cons, List.sum_cons, List.length_cons]
      have := hd.sz
      rw [Nat.add_mul]; omega
theorem FineQ.tup {ds : List PyData} {dep B : Nat} (h : ∀ d ∈ ds, FineQ d dep B) : FineQ (.tuple ds) (dep + 1) (ds.length * (B + 2) + 3) := by
  obtain ⟨a2, a3, a4, a5⟩ := fineq_all h
  refine ⟨by simp only [PyData.showable, a2], by simp only [PyData.depth]; omega, ?_⟩
  have := tupleText_len_le (PyData.shownAll ds)
  rw [a5] at this
  simp only [PyData.shown]
  rw [Nat.mul_add]; omega
theorem FineQ.lst {ds : List PyData} {dep B : Nat} (h : ∀ d ∈ ds, FineQ d dep B) : FineQ (.list ds) (dep + 1) (ds.length * (B + 2) + 3) := by
  obtain ⟨a2, a3, a4, a5⟩ := fineq_all h
  refine ⟨by simp only [PyData.showable, a2], by simp only [PyData.depth]; omega, ?_⟩
  have := listText_len_le (PyData.shownAll ds)
  rw [a5] at this
  simp only [PyData.shown]
  rw [Nat.mul_add]; omega
/-- types -/
def tyN : PyData → String
  | .none => "NoneType" | .bool _ => "bool" | .int _ => "int" | .str _ => "str" | .list _ => "list" | .tuple _ => "tuple" | .dict _ => "dict"
theorem Dq.ty {K : PySem.W.Frag} {H : Hp} {v : V} {dd : PyData} (h : Dq K H v dd) : TyX K H v (.type (tyN dd)) := by
  cases h with
  | non => exact .base .non
  | bl b => exact .base (.bl b)
  | int i => exact .base (.int i)
  | str x => exact .base (.str x)
  | lst h _ =>
    rcases h with (h | ⟨o, h⟩) | ⟨o, _, _, h, hc, _⟩
    · exact .base (.lst h)
    · exact .base (.frz h)
    · exact .kList h hc
  | tup h _ =>
    rcases h with (h | ⟨o, h⟩) | ⟨o, _, _, h, hc, _⟩
    · exact .base (.tup h)
    · exact .fTuple h
    · exact .kTuple h hc
  | dct h => exact .base (.dK h)
def isIntD : PyData → Bool
  | .bool _ => true | .int _ => true | _ => false
def isBoolD : PyData → Bool
  | .bool _ => true | _ => false
def isTupD : PyData → Bool
  | .tuple _ => true | _ => false
theorem kb_int_NoneType : kitB "NoneType" "int" = some false := by decide +kernel
theorem kb_int_bool : kitB "bool" "int" = some true := by decide +kernel
theorem kb_int_int : kitB "int" "int" = some true := by decide +kernel
theorem kb_int_str : kitB "str" "int" = some false := by decide +kernel
theorem kb_int_list : kitB "list" "int" = some false := by decide +kernel
theorem kb_int_tuple : kitB "tuple" "int" = some false := by decide +kernel
theorem kb_int_dict : kitB "dict" "int" = some false := by decide +kernel
theorem kit_int {K : PySem.W.Frag} : ∀ dd : PyData, PySem.W.kitOne K (.type (tyN dd)) (.type "int") = some (isIntD dd)
  | .none => kit_ty kb_int_NoneType | .bool _ => kit_ty kb_int_bool | .int _ => kit_ty kb_int_int | .str _ => kit_ty kb_int_str | .list _ => kit_ty kb_int_list | .tuple _ => kit_ty kb_int_tuple | .dict _ => kit_ty kb_int_dict
theorem kb_bool_NoneType : kitB "NoneType" "bool" = some false := by decide +kernel
theorem kb_bool_bool : kitB "bool" "bool" = some true := by decide +kernel
theorem kb_bool_int : kitB "int" "bool" = some false := by decide +kernel
theorem kb_bool_str : kitB "str" "bool" = some false := by decide +kernel
theorem kb_bool_list : kitB "list" "bool" = some false := by decide +kernel
theorem kb_bool_tuple : kitB "tuple" "bool" = some false := by decide +kernel
theorem kb_bool_dict : kitB "dict" "bool" = some false := by decide +kernel
theorem kit_bool {K : PySem.W.Frag} : ∀ dd : PyData, PySem.W.kitOne K (.type (tyN dd)) (.type "bool") = some (isBoolD dd)
  | .none => kit_ty kb_bool_NoneType | .bool _ => kit_ty kb_bool_bool | .int _ => kit_ty kb_bool_int | .str _ => kit_ty kb_bool_str | .list _ => kit_ty kb_bool_list | .tuple _ => kit_ty kb_bool_tuple | .dict _ => kit_ty kb_bool_dict
theorem kb_tup_NoneType : kitB "NoneType" "tuple" = some false := by decide +kernel
theorem kb_tup_bool : kitB "bool" "tuple" = some false := by decide +kernel
theorem kb_tup_int : kitB "int" "tuple" = some false := by decide +kernel
theorem kb_tup_str : kitB "str" "tuple" = some false := by decide +kernel
theorem kb_tup_list : kitB "list" "tuple" = some false := by decide +kernel
theorem kb_tup_tuple : kitB "tuple" "tuple" = some true := by decide +kernel
theorem kb_tup_dict : kitB "dict" "tuple" = some false := by decide +kernel
theorem kit_tup {K : PySem.W.Frag} : ∀ dd : PyData, PySem.W.kitOne K (.type (tyN dd)) (.type "tuple") = some (isTupD dd)
  | .none => kit_ty kb_tup_NoneType | .bool _ => kit_ty kb_tup_bool | .int _ => kit_ty kb_tup_int | .str _ => kit_ty kb_tup_str | .list _ => kit_ty kb_tup_list | .tuple _ => kit_ty kb_tup_tuple | .dict _ => kit_ty kb_tup_dict
/-- one of the items -/
def spOne (K : PySem.W.Frag) : Sp := fun vs H Q _ => ∃ (d c a : Addr) (xs : List V), vs = [.ref d, .ref a] ∧ Sup H d c ∧ SqL K (hideX H d c) a xs ∧ xs ≠ [] ∧ xs.length ≤ 1000 ∧ ∀ (v : V) (H' : Hp), v ∈ xs → Sup H' d c → SameX H H' d c → Q v H'
/-- keys, as data -/
def keyD : PyData → Bool
  | .int i => decide (0 ≤ i) && decide (i ≤ 1000000000000)
  | _ => false
def spIsKey (K : PySem.W.Frag) : Sp := fun vs H Q _ => ∃ (v : V) (dd : PyData), vs = [v] ∧ Dq K H v dd ∧ Q (.bl (keyD dd)) H
def spIsInt (K : PySem.W.Frag) : Sp := fun vs H Q _ => ∃ (v : V) (dd : PyData), vs = [v, .int 0, .int 1000000000000] ∧ Dq K H v dd ∧ Q (.bl (keyD dd)) H
/-- odd values -/
def oddMenu : List PyData := [.none, .bool true, .bool false, .int (-1), .int 0, .int 1, .int 2, .int 1000000000000, .int 1000000000001, .int (10 ^ 39), .str "", .str "0", .str "sorted",
  .str "late 1 1", .str "0: 1", .tuple [], .list [], .dict [], .tuple [.int 0], .list [.int 1], .tuple [.bool true], .tuple [.int 0, .int 0], .tuple [.tuple [.int 1]], .dict [(.str "a", .int 0)], .tuple [.none, .int 1]]
theorem odd_fine : ∀ dd ∈ oddMenu, FineQ dd 2 60 := by
  have h : oddMenu.all (fun dd => dd.showable && decide (dd.depth ≤ 2) && decide (dd.shown.length ≤ 60)) = true := by decide +kernel
  intro dd hd
  have := List.all_eq_true.mp h dd hd
  simp only [Bool.and_eq_true, decide_eq_true_eq] at this
  exact ⟨this.1.1, this.1.2, this.2⟩
def spOdd (K : PySem.W.Frag) : Sp := fun vs H Q _ => ∃ (d c : Addr), vs = [.ref d] ∧ Sup H d c ∧ ∀ (v : V) (dd : PyData) (H' : Hp), dd ∈ oddMenu → Val K H' d c v dd → Sup H' d c → SameX H H' d c → Q v H'
end KX

namespace KX
open PySem PySem.Spec L2
open PyProof.Rows hiding St
/-! enumerate(t), t a tuple -/
theorem enumNew {v : Value} {o : Obj} {G : Heap → Prop} (B : Begins v o G) :
    Meets (Builtin.«enumerate.__new__» ⟨[.type "enumerate", v], []⟩) (fun _ R s => G s.heap ∧ R (.ok (.ret (.ref (s.heap.push o).objs.size))) { s with heap := (s.heap.push o).push { cls := .type "enumerate", data := .fields #[.none, .bool false, .ref s.heap.objs.size, rawInt 0, .none, .none] } }) :=
  .of_wp fun prog w A R s h => by
    obtain ⟨hp, g, d, tk, os⟩ := s
    obtain ⟨h1, h2⟩ := h
    have sub := sub_enumerate
    have it : ∀ {A' : Around} {E : Value → Shared → Prop} {Q : Value → Shared → Prop}, Q (.ref hp.objs.size) ⟨hp.push o, g, d, tk, os⟩ → wpAny (model prog w) A' (pyIter v) Q E ⟨hp, g, d, tk, os⟩ := fun q => B.iter prog w _ _ ⟨hp, g, d, tk, os⟩ _ h1 q
    wp_walk using it
    refine wpAny_stack_any fun st => wpAny_pure ?_
    split
    · rename_i c _ _ _ _ _
      cases (c == Value.type "enumerate") <;> (wp_walk using it; exact ⟨_, rfl, h2⟩)
    · wp_walk using it
      exact ⟨_, rfl, h2⟩
theorem enumCall {prog : Program} {w : World} {A : Around} {E : Value → Shared → Prop} {s : Shared} {v : Value} {o : Obj} {G : Heap → Prop} {Q : Value → Shared → Prop} (B : Begins v o G) (h1 : G s.heap)
    (h : ∀ h', IsEnum h' (s.heap.objs.size + 1) s.heap.objs.size 0 .none → h'.get? s.heap.objs.size = some o → (∀ b u, s.heap.get? b = some u → h'.get? b = some u) → Q (.ref (s.heap.objs.size + 1)) { s with heap := h' }) :
    wpAny (model prog w) A (call (.type "enumerate") [v]) Q E s := by
  refine callType_new F.called_enumerate (by decide) (F.typeCall_enumerate_1 _) (F.newCall_enumerate_1 _) (fun obj => F.args_object_init_2 obj _) F.entry_enumerate_new (enumNew B) ⟨h1, ?_⟩
  have hz : (s.heap.push o).objs.size = s.heap.objs.size + 1 := Heap.size_push ..
  have he : IsEnum ((s.heap.push o).push { cls := .type "enumerate", data := .fields #[.none, .bool false, .ref s.heap.objs.size, rawInt 0, .none, .none] }) (s.heap.objs.size + 1) s.heap.objs.size 0 .none := by
    have q := Heap.get?_push_size (s.heap.push o) (o := { cls := .type "enumerate", data := .fields #[.none, .bool false, .ref s.heap.objs.size, rawInt 0, .none, .none] }) rfl
    rw [hz] at q
    exact q
  show _ ∧ _
  rw [hz]
  exact ⟨⟨_, he, rfl⟩, h _ he (Heap.get?_push_of_some _ (Heap.get?_push_size _ B.free)) fun b u x => Heap.get?_push_of_some _ (Heap.get?_push_of_some _ x)⟩
/-- the tuple at a, each item in a new pair -/
def IteT (K : PySem.W.Frag) (a : Addr) : It :=
  ⟨fun i H => ∃ (xs : List V) (x : V), SqT K H a xs ∧ xs[i]? = some x, fun i H v H' => ∃ T x, v = .ref T ∧ H T = none ∧ H' = upd H T (.tup [.int (i : Nat), x]) ∧ ∀ xs, SqT K H a xs → xs[i]? = some x, fun i H => ∃ xs : List V, SqT K H a xs ∧ xs.length = i⟩
theorem turnT {P : Program} {w : World} {K : PySem.W.Frag} {elts : List Expr} {kk : Nat} {tpos : Pos} (a e it : Addr) :
    Turn P w K (.Tuple elts kk tpos) (IteT K a) [e, it] e (fun i h => (∃ old, IsEnum h e it ((i : Nat) : Int) old) ∧ h.IsTupleIter it a i ∧ e ≠ it) where
  mem := List.mem_cons_self
  obj := fun i h st b hb => by
    obtain ⟨⟨old, he⟩, ⟨o, ho, hc, hd⟩, _⟩ := st
    rcases List.mem_cons.mp hb with z | z
    · subst z; exact ⟨_, he, fun v q => nomatch q⟩
    · obtain rfl : b = it := List.mem_singleton.mp z
      exact ⟨o, ho, fun v q => by rw [hd] at q; cases q⟩
  keep := fun i h h' st k => by
    obtain ⟨⟨old, he⟩, hi, hne⟩ := st
    exact ⟨⟨old, k e List.mem_cons_self _ he⟩, hi.at fun o q => k it (List.mem_cons_of_mem _ List.mem_cons_self) o q, hne⟩
  item := by
    intro X hP hw hK hc i pins s σ H E I hf st hg
    subst hP hw hK
    obtain ⟨⟨old, he⟩, hit, hne⟩ := st
    obtain ⟨xs, x, hq, hx⟩ := hg
    obtain ⟨its, rv, tp, hz⟩ := I.tuple hq
    obtain ⟨u, hu, ru⟩ := rv.get hx
    have hea : e ≠ a := fun z => by
      obtain ⟨o, h1, h2, _⟩ := tp
      rw [← z, show s.heap.get? e = some _ from he] at h1
      cases h1
      exact absurd (Value.type.inj h2) (by decide)
    have hia : a ≠ it := fun z => by
      obtain ⟨o, h1, h2, _⟩ := tp
      obtain ⟨o', g1, g2, _⟩ := hit
      rw [z, g1] at h1
      cases h1
      rw [g2] at h2
      exact absurd (Value.type.inj h2) (by decide)
    have hel : e < s.heap.objs.size := Heap.lt_size he
    have hil : it < s.heap.objs.size := by obtain ⟨_, q, _⟩ := hit; exact Heap.lt_size q
    have hui : its[i]? = some u := hu
    have hlt : i < its.toArray.size := by rw [List.size_toArray]; exact (List.getElem?_eq_some_iff.mp hui).1
    have D := Draws.tuple (prog := X.prog) (w := X.w) (A := X.A.in1) (I.ok.hd hc) it a hia its.toArray
    refine wpAny_pyNext_enum_itemD (A := X.A) D he ⟨hit, tp⟩ hlt hne (fun z => by
      rcases List.mem_cons.mp z with z | z
      · exact hne z
      · exact hea (List.mem_singleton.mp z)) fun y h' tk hy ho st' hT hsz hk => ?_
    have ey : y = u := by
      have q : its.toArray[i]? = some u := by simpa using hui
      exact Option.some.inj (hy.symm.trans q)
    subst ey
    refine ⟨_, rfl, wpAny_letOwnedTupleGo_enum (s := { s with heap := h', toks := tk + 1 }) ho fun h'' he' sb => ?_⟩
    have hT2 : h''.get? s.heap.objs.size = some { cls := .type "tuple", data := .seq #[.int i tk, y] } := (sb.2 _ (Nat.ne_of_gt hel)).trans hT
    have I1 : Inv X pins σ (upd H s.heap.objs.size (.tup [.int (i : Nat), x])) { s with heap := h'', toks := tk + 1 } := by
      refine I.turnedNew (ch := [e, it]) (fun b ob hb q => ?_) hf (Nat.le_refl _) (show ObjOk X.prog X.w _ h'' _ (.tup [.int (i : Nat), x]) from ⟨by show 2 ≤ sizeLine; decide, [.int i tk, y], .cons ⟨_, rfl⟩ (.cons ru .nil), ⟨_, hT2, rfl, _, rfl⟩⟩)
      have b1 : b ≠ e := fun z => hb (z ▸ List.mem_cons_self)
      have b2 : b ≠ it := fun z => hb (z ▸ List.mem_cons_of_mem _ List.mem_cons_self)
      exact (sb.2 b b1).trans (hk b ob b1 b2 q)
    refine ⟨.ref s.heap.objs.size, _, I1, rfl, ⟨_, x, rfl, I.hok.fresh (Nat.le_refl _), rfl, fun ys hy => by rw [I.tuple_inj hy hq]; exact hx⟩, ⟨⟨y, by rw [show ((i + 1 : Nat) : Int) = (i : Int) + 1 by omega]; exact he'⟩, st'.1.at fun o q => (sb.2 it (Ne.symm hne)).trans q, hne⟩, fun b hb => ?_⟩
    have hb' : b < s.heap.objs.size := by
      rcases List.mem_cons.mp hb with z | z
      · exact z ▸ hel
      · exact (List.mem_singleton.mp z) ▸ hil
    rw [upd_ne (Nat.ne_of_lt hb')]
    exact (hf b hb).1
  done := by
    intro X hP hw hK hc i pins s σ H E I hf st hg
    subst hP hw hK
    obtain ⟨⟨old, he⟩, hit, hne⟩ := st
    obtain ⟨xs, hq, hx⟩ := hg
    obtain ⟨its, rv, tp, hz⟩ := I.tuple hq
    have hia : a ≠ it := fun z => by
      obtain ⟨o, h1, h2, _⟩ := tp
      obtain ⟨o', g1, g2, _⟩ := hit
      rw [z, g1] at h1
      cases h1
      rw [g2] at h2
      exact absurd (Value.type.inj h2) (by decide)
    obtain ⟨f0, f1, f2, f3, f4, f5⟩ := hf it (List.mem_cons_of_mem _ List.mem_cons_self)
    have D := Draws.tuple (prog := X.prog) (w := X.w) (A := X.A.in1) (I.ok.hd hc) it a hia its.toArray
    have en : i = its.toArray.size := by rw [List.size_toArray, ← rv.length, hx]
    rw [en] at hit
    exact wpAny_pyNext_enum_endD (A := X.A) D he ⟨hit, tp⟩ fun h' eb => ⟨rfl, I.turned (t' := s.toks) (fun b o hb q => eb b o hb q) f0 f1 f3 f4 f5⟩
  self := fun A i s Q E st h => by
    obtain ⟨⟨_, he⟩, _⟩ := st
    exact wpAny_pyIter_enum he h
def iEnumT (K : PySem.W.Frag) (ta : TA) : TI := fun σ H R => ta σ H fun vs H1 => ∃ a xs, vs = [.ref a] ∧ SqT K H1 a xs ∧ R (IteT K a) H1
theorem pi_enumT {X : Cx} {e : Expr} {ta : TA} {p pos tpos : Pos} {elts : List Expr} {kk : Nat} (hg : Gl X "enumerate") (hm : X.mg "enumerate" = none) (ha : PA X [e] ta) (hs : starEach [e] X.env = [(false, eval e X.env)] := by rfl) :
    PI X (.Tuple elts kk tpos) (.Call (.Name "enumerate" p) [e] [] pos) (iEnumT X.K ta) := by
  constructor
  intro pins s σ H R I h
  refine Call_ (ld_blt I hg hm boot_enumerate (PyProof.Rows.callWith_type1 (thn (ha.run pos pins s σ H _ I h) fun us s1 ⟨vs, H1, I1, r1, a, xs, ex, hq, q⟩ => ?_) hs rfl))
  subst ex
  obtain ⟨u, rfl, ru⟩ := vals1 r1
  obtain rfl : u = Value.ref a := ru
  obtain ⟨its, rv, tp, hz⟩ := I1.tuple hq
  refine enumCall (begins_tuple a its.toArray) tp fun h' he hit hk => wpAny_pyIter_enum he ?_
  have I2 : Inv X pins σ H1 { s1 with heap := h' } := I1.kept (t' := s1.toks) hk
  refine ⟨s1.heap.objs.size + 1, [s1.heap.objs.size + 1, s1.heap.objs.size], _, _, H1, rfl, I2, turnT a (s1.heap.objs.size + 1) s1.heap.objs.size, ⟨⟨.none, he⟩, ⟨_, hit, rfl, rfl⟩, Nat.succ_ne_self _⟩, fun b hb => ?_, q⟩
  have hle : s1.heap.objs.size ≤ b := by
    rcases List.mem_cons.mp hb with z | z
    · rw [z]; exact Nat.le_succ _
    · rw [List.mem_singleton.mp z]; exact Nat.le_refl _
  exact I1.fpOk hle (I1.hok.fresh hle)
section
variable {K : PySem.W.Frag} {a : Addr} {xs : List V}
theorem for_enumT {g : TG} {tb : TS} {D : Ends} {σ : L2.St} {H : Hp} (Pv : Nat → L2.St → Hp → Prop) (h0 : Pv 0 σ H) (hl : ∀ i σ H, i ≤ xs.length → Pv i σ H → SqT K H a xs)
    (hs : ∀ i x σ H T, xs[i]? = some x → Pv i σ H → H T = none → g (.ref T) σ (upd H T (.tup [.int (i : Nat), x])) fun σ2 H2 => tb { D with nx := Pv (i + 1), ct := Pv (i + 1), bk := D.nx } σ2 H2) (hd : ∀ σ H, Pv xs.length σ H → D.nx σ H) :
    ∃ W : Nat → Nat → L2.St → Hp → Prop, (∃ m, W 0 m σ H) ∧ ∀ i m σ H, W i m σ H →
      ((IteT K a).stop i H ∧ D.nx σ H) ∨ ((IteT K a).go i H ∧ ∃ N : L2.St → Hp → Prop, (∀ σ' H', N σ' H' → ∃ m', m' < m ∧ W (i + 1) m' σ' H') ∧ ∀ x H', (IteT K a).yld i H x H' → g x σ H' fun σ2 H2 => tb { D with nx := N, ct := N, bk := D.nx } σ2 H2) := by
  refine ⟨fun i m σ H => m = xs.length - i ∧ i ≤ xs.length ∧ Pv i σ H, ⟨_, rfl, Nat.zero_le _, h0⟩, ?_⟩
  rintro i m σ H ⟨rfl, hi, p⟩
  have q := hl i σ H hi p
  rcases Nat.lt_or_ge i xs.length with lt | ge
  · refine .inr ⟨⟨xs, _, q, List.getElem?_eq_getElem lt⟩, Pv (i + 1), fun σ' H' p' => ⟨xs.length - (i + 1), by omega, rfl, lt, p'⟩, ?_⟩
    rintro x H' ⟨T, y, rfl, hT, rfl, hy⟩
    exact hs i y σ H T (hy xs q) p hT
  · obtain rfl : i = xs.length := by omega
    exact .inl ⟨⟨xs, q, rfl⟩, hd σ H p⟩
theorem lc_enumT {g : TG} {tt : TT} {te : TE} {vs : List Nat} {σ : L2.St} {H1 : Hp} {D : Addr} {Qd : Hp → Prop} (Pv : Nat → Hp → Prop) (h0 : Pv 0 (upd H1 D (.lst []))) (hl : ∀ i H, i ≤ xs.length → Pv i H → SqT K H a xs)
    (hs : ∀ i x H T, xs[i]? = some x → Pv i H → H T = none → g (.ref T) (wipe σ vs) (upd H T (.tup [.int (i : Nat), x])) fun σ2 H2 => wipe σ2 vs = wipe σ vs ∧ tt σ2 H2 fun b H3 =>
      if b = true then te σ2 H3 fun y H4 => ∃ acc, H4 D = some (.lst acc) ∧ acc.length < sizeLine ∧ Pv (i + 1) (upd H4 D (.lst (acc ++ [y]))) else Pv (i + 1) H3) (hd : ∀ H, Pv xs.length H → Qd H) :
    ∃ W : Nat → Nat → Hp → Prop, (∃ m, W 0 m (upd H1 D (.lst []))) ∧ ∀ i m H, W i m H →
      ((IteT K a).stop i H ∧ Qd H) ∨ ((IteT K a).go i H ∧ ∃ Nx : Hp → Prop, (∀ H', Nx H' → ∃ m', m' < m ∧ W (i + 1) m' H') ∧ ∀ x H', (IteT K a).yld i H x H' → g x (wipe σ vs) H' fun σ2 H2 => wipe σ2 vs = wipe σ vs ∧ tt σ2 H2 fun b H3 =>
        if b = true then te σ2 H3 fun y H4 => ∃ acc, H4 D = some (.lst acc) ∧ acc.length < sizeLine ∧ Nx (upd H4 D (.lst (acc ++ [y]))) else Nx H3) := by
  refine ⟨fun i m H => m = xs.length - i ∧ i ≤ xs.length ∧ Pv i H, ⟨_, rfl, Nat.zero_le _, h0⟩, ?_⟩
  rintro i m H ⟨rfl, hi, p⟩
  have q := hl i H hi p
  rcases Nat.lt_or_ge i xs.length with lt | ge
  · refine .inr ⟨⟨xs, _, q, List.getElem?_eq_getElem lt⟩, Pv (i + 1), fun H' p' => ⟨xs.length - (i + 1), by omega, rfl, lt, p'⟩, ?_⟩
    rintro x H' ⟨T, y, rfl, hT, rfl, hy⟩
    exact hs i y H T (hy xs q) p hT
  · obtain rfl : i = xs.length := by omega
    exact .inl ⟨⟨xs, q, rfl⟩, hd H p⟩
end
end KX

namespace KX
open PySem PySem.Spec L2
open PyProof.Rows hiding St
/-! max and min of a tuple of ints: one of them -/
section
variable {X : Cx}
def rBest (K : PySem.W.Frag) : List V → Hp → VK → Prop := fun vs H Q => ∃ (a : Addr) (ns : List Int), vs = [V.ref a] ∧ SqT K H a (ns.map V.int) ∧ ns ≠ [] ∧ ∀ m ∈ ns, Q (.int m) H
theorem best_end {pins : List (Addr × Obj)} {σ : L2.St} {H : Hp} {s : Shared} {Q : VK} {ns : List Int} {its : List Value} (I : Inv X pins σ H s) (rv : Vals (ns.map V.int) its) (q : ∀ m ∈ ns, Q (.int m) H) (i : Nat) (v : Value) (h' : Heap) (tk : Nat)
    (hi : its.toArray[i]? = some v) (hk : ∀ b o, s.heap.get? b = some o → h'.get? b = some o) : EP X pins σ Q v { s with heap := h', toks := tk } := by
  have hi' : its[i]? = some v := by simpa using hi
  have hlt : i < (ns.map V.int).length := by rw [rv.length]; exact (List.getElem?_eq_some_iff.mp hi').1
  obtain ⟨u, hu, ru⟩ := rv.get (List.getElem?_eq_getElem hlt)
  rw [hi'] at hu
  cases hu
  obtain ⟨m, hm, e, _⟩ := getI (List.getElem?_eq_getElem hlt)
  rw [e] at ru
  exact ⟨.int m, H, I.kept hk, ru, q m (List.mem_of_getElem? hm)⟩
theorem alike_ints (ns : List Int) : PySem.W.AlikeAll (ns.map PyData.int) := by
  refine ⟨fun x hx y hy => ?_, fun x hx z => ?_⟩
  · obtain ⟨a, _, rfl⟩ := List.mem_map.mp hx
    obtain ⟨b, _, rfl⟩ := List.mem_map.mp hy
    rfl
  · obtain ⟨a, _, rfl⟩ := List.mem_map.mp hx
    cases z
theorem cr_maxT (hc : X.calm = true) (hu : X.A.units + 64 < cLine) : CallR X (.builtin "max") (rBest X.K) := by
  intro pins s σ H vs us Q I r ⟨a, ns, e, hs, hne, q⟩
  subst e
  obtain ⟨its, rv, tp, hz⟩ := I.tuple hs
  rw [Vals.ref1 r]
  obtain ⟨as, rd⟩ := DqAll.reads I _ _ its (dq_ints ns) rv
  obtain ⟨n, ms, rfl⟩ := List.exists_cons_of_ne_nil hne
  refine PySem.W.max_tuple_data (I.ok.hd hc) tp rd (alike_ints (n :: ms)) ?_ fun i v h' tk bs hi _ hk => best_end I rv q i v h' tk hi hk
  have := depth_ints (n :: ms)
  rw [List.map_cons] at this
  rw [this]; omega
theorem cr_minT (hc : X.calm = true) (hu : X.A.units + 64 < cLine) : CallR X (.builtin "min") (rBest X.K) := by
  intro pins s σ H vs us Q I r ⟨a, ns, e, hs, hne, q⟩
  subst e
  obtain ⟨its, rv, tp, hz⟩ := I.tuple hs
  rw [Vals.ref1 r]
  obtain ⟨as, rd⟩ := DqAll.reads I _ _ its (dq_ints ns) rv
  obtain ⟨n, ms, rfl⟩ := List.exists_cons_of_ne_nil hne
  refine PySem.W.min_tuple_data (I.ok.hd hc) tp rd (alike_ints (n :: ms)) ?_ fun i v h' tk bs hi _ hk => best_end I rv q i v h' tk hi hk
  have := depth_ints (n :: ms)
  rw [List.map_cons] at this
  rw [this]; omega
def rMaxE (K : PySem.W.Frag) : List V → Hp → VK → Prop := fun vs H Q => ∃ (a : Addr) (n : Int) (ns : List Int), vs = [V.ref a] ∧ SqT K H a ((n :: ns).map V.int) ∧ Q (.int (ns.foldl max n)) H
theorem cr_maxE (hc : X.calm = true) (hu : X.A.units + 64 < cLine) : CallR X (.builtin "max") (rMaxE X.K) := by
  intro pins s σ H vs us Q I r ⟨a, n, ns, e, hs, q⟩
  subst e
  obtain ⟨its, rv, tp, hz⟩ := I.tuple hs
  rw [Vals.ref1 r]
  obtain ⟨as, rd⟩ := DqAll.reads I _ _ its (dq_ints (n :: ns)) rv
  refine PySem.W.max_tuple_data (I.ok.hd hc) tp rd (alike_ints (n :: ns)) ?_ fun i v h' tk bs hi hr hk => ?_
  · have := depth_ints (n :: ns)
    rw [List.map_cons] at this
    rw [this]; omega
  · rw [PySem.W.maxD_ints] at hr
    cases hr
    exact ⟨.int _, H, I.kept hk, ⟨_, rfl⟩, q⟩
end
/-! an own error with one field -/
def spInit1 (C : Addr) (f : Str) : Sp := fun vs H Q _ => ∃ (a : Addr) (v : V), vs = [.ref a, v] ∧ H a = some (exo a C none) ∧ ∀ dx, H dx = none → dx ≠ a → Q .non (upd (upd H dx (exd dx [(f, v)])) a (exo a C (some dx)))
/-- what is left of C(v) -/
theorem made_heap {H1 : Hp} {a d C : Addr} {fs : List (Str × V)} (ha : H1 a = none) (hda : d ≠ a) : upd (del (upd (upd (upd H1 a (exo a C none)) d (exd d fs)) a (exo a C (some d))) a) d (.xd fs) = upd H1 d (.xd fs) := by
  funext b
  rcases Decidable.em (b = d) with e | e
  · subst e; rw [upd_same, upd_same]
  · rw [upd_ne e, upd_ne e]
    rcases Decidable.em (b = a) with e2 | e2
    · subst e2; rw [del_same, ha]
    · rw [del_ne e2, upd_ne e2, upd_ne e, upd_ne e2]
/-! isinstance of the caught error, with its field -/
section
variable {X : Cx}
structure ErrC (K : PySem.W.Frag) (C : Addr) : Prop where
  cl : (PySem.W.clsIn K C).isSome = true
  ga : PySem.W.findIn K (.ref C) "__getattribute__" = some (some (.builtin "BaseException.__getattribute__"))
  gg : PySem.W.findIn K (.ref C) "__getattr__" = some none
  sb : PySem.W.subIn K (.ref C) (.type "BaseException") = some true
  ca : PySem.W.findIn K (.ref C) "__class__" = some (some (.builtin "object.__class__"))
  cn : PySem.W.specialIn K (.builtin "object.__class__") "__get__" = some (some (.builtin "getset_descriptor.__get__"))
  ct : PySem.W.takesIn K (.builtin "object.__class__") = some true
  mo : PySem.W.mroIn K C (.type "object") = some true
def rIsErr (K : PySem.W.Frag) (C a : Addr) (cls : Value) (d : Option Addr) : List V → Hp → VK → Prop := fun xs H Q => ∃ (c : V) (cv : Value) (b : Bool) (dd : Addr) (fs : List (Str × V)), cls = .ref C ∧ d = some dd ∧ H dd = some (.xd fs) ∧ xs = [.ref a, c] ∧ ClsV c cv ∧ PySem.W.kitOne K (.ref C) cv = some b ∧ Q (.bl b) H
def rIsErrT (K : PySem.W.Frag) (C a : Addr) (cls : Value) (d : Option Addr) : List V → Hp → VK → Prop := fun xs H Q => ∃ (tp : Addr) (cs : List V) (us : List Value) (b : Bool) (dd : Addr) (fs : List (Str × V)), cls = .ref C ∧ d = some dd ∧ H dd = some (.xd fs) ∧ xs = [.ref a, .ref tp] ∧ H tp = some (.tup cs) ∧ Paired ClsV cs us ∧ PySem.W.kitAny K (.ref C) us = some b ∧ Q (.bl b) H
theorem err_at {a C dd : Addr} {oe : Obj} {pn pins : List (Addr × Obj)} {s : Shared} {σ : L2.St} {H : Hp} {fs : List (Str × V)} (I : Inv (X.suite a ((a, oe) :: pn)) pins σ H s) (hz : Zc (.ref C) (some dd) oe) (hf : ∃ vs, oe.data = .fields vs) (hd : H dd = some (.xd fs)) : ∃ od, PySem.W.InstAt s.heap a oe C (some od) := by
  obtain ⟨ha, _⟩ := I.pin (a, oe) (List.mem_append_left _ List.mem_cons_self)
  obtain ⟨vs, hv⟩ := hf
  obtain ⟨mA, ⟨od, es, ep, ho, _⟩, _⟩ := (show ObjOk X.prog X.w H s.heap dd (.xd fs) from I.hok dd _ hd)
  exact ⟨od, ha, hz.1, by unfold PySem.W.notCls; rw [hv] <;> rfl, by rw [hz.2]; exact ho⟩
theorem call_isErr {a C : Addr} {oe : Obj} {cls : Value} {d : Option Addr} {pn : List (Addr × Obj)} (T : ErrC X.K C) (hz : Zc cls d oe) (hf : ∃ vs, oe.data = .fields vs) : CallR (X.suite a ((a, oe) :: pn)) (.builtin "isinstance") (rIsErr X.K C a cls d) := by
  intro pins s σ H xs us Q I r ⟨c, cv, b, dd, fs, hcl, ed, hd, ex, kc, e, q⟩
  subst hcl ed ex
  obtain ⟨u1, u2, rfl, r1, r2⟩ := vals2 r
  obtain rfl : u1 = Value.ref a := r1
  obtain rfl := kc.eq r2
  obtain ⟨od, J⟩ := err_at I hz hf hd
  exact PySem.W.kia_one (PySem.W.kitx_exc T.cl T.ga T.gg T.sb T.ca T.cn T.ct T.mo) I.kIn J e (fun z => nomatch z) fun tk => ⟨.bl b, H, I.kept (t' := tk) fun _ _ z => z, rfl, q⟩
theorem call_isErrT {a C : Addr} {oe : Obj} {cls : Value} {d : Option Addr} {pn : List (Addr × Obj)} (T : ErrC X.K C) (hz : Zc cls d oe) (hf : ∃ vs, oe.data = .fields vs) : CallR (X.suite a ((a, oe) :: pn)) (.builtin "isinstance") (rIsErrT X.K C a cls d) := by
  intro pins s σ H xs us Q I r ⟨tp, cs, ws, b, dd, fs, hcl, ed, hd, ex, hT, kc, e, q⟩
  subst hcl ed ex
  obtain ⟨u1, u2, rfl, r1, r2⟩ := vals2 r
  obtain rfl : u1 = Value.ref a := r1
  obtain rfl : u2 = Value.ref tp := r2
  obtain ⟨od, J⟩ := err_at I hz hf hd
  obtain ⟨_, its, rv, o, h1, h2, n, h3⟩ := (show ObjOk X.prog X.w H s.heap tp (.tup cs) from I.hok tp _ hT)
  obtain rfl := ClsV.all kc rv
  obtain ⟨oc, od2, dt, sl⟩ := o
  simp only at h2 h3
  subst h2 h3
  exact PySem.W.kia_tup (PySem.W.kitx_exc T.cl T.ga T.gg T.sb T.ca T.cn T.ct T.mo) I.kIn J h1 e (fun z => nomatch z) fun tk => ⟨.bl b, H, I.kept (t' := tk) fun _ _ z => z, rfl, q⟩
end
/-! which class is which -/
theorem cls_some {K : PySem.W.Frag} {C : Addr} (h : PySem.W.hasDictIn K C = true) : (PySem.W.clsIn K C).isSome = true := by
  obtain ⟨cd, hc, _⟩ := PySem.W.any_some h
  rw [hc]; rfl
theorem kit_own {K : PySem.W.Frag} {C D : Addr} {b : Bool} (h1 : PySem.W.hasDictIn K D = true) (h2 : PySem.W.typeIn K (.ref D) = some (.type "type")) (h3 : PySem.W.subIn K (.ref C) (.ref D) = some b) (h4 : (Value.ref C == Value.ref D) = false) : PySem.W.kitOne K (.ref C) (.ref D) = some b := by
  unfold PySem.W.kitOne
  rw [if_neg (by rw [h4]; exact Bool.false_ne_true)]
  unfold PySem.W.kitCls
  simp only [cls_some h1, h2, h3]
  simp
theorem kit_self {K : PySem.W.Frag} {C : Addr} : PySem.W.kitOne K (.ref C) (.ref C) = some true := by
  unfold PySem.W.kitOne
  rw [if_pos (by simp)]
theorem kit_base {K : PySem.W.Frag} {C : Addr} {T : String} {b : Bool} (h1 : PySem.W.kitMeta T = true) (h2 : PySem.W.subIn K (.ref C) (.type T) = some b) : PySem.W.kitOne K (.ref C) (.type T) = some b := by
  unfold PySem.W.kitOne
  rw [if_neg (by show ¬ ((Value.ref C == Value.type T) = true); exact Bool.false_ne_true)]
  unfold PySem.W.kitCls
  simp only [h1, h2]
  simp
theorem meta_VE : PySem.W.kitMeta "ValueError" = true := by decide +kernel
end KX

namespace MX
/-! ranks and mirrors of rows: plain lists -/
def sm (row : List Int) (k : Int) : Nat := (row.filter fun z => decide (z < k)).length
def desc (row : List Int) : List Int := row.mergeSort fun a b => decide (b ≤ a)
def flip (row : List Int) (k : Int) : Int := (desc row).getD (sm row k) 0
def mir (row : List Int) : List Int := row.reverse.map (flip row)
theorem sm_perm {a b : List Int} (h : a.Perm b) (k : Int) : sm a k = sm b k := (h.filter _).length_eq
theorem desc_perm (row : List Int) : (desc row).Perm row := List.mergeSort_perm _ _
theorem desc_ge (row : List Int) : (desc row).Pairwise (· ≥ ·) := by
  have h := List.pairwise_mergeSort (le := fun a b : Int => decide (b ≤ a)) (by intro a b c; simp; omega) (by intro a b; simp; omega) row
  exact h.imp fun {a b} q => by simpa using q
theorem desc_uniq {row ds : List Int} (hp : ds.Perm row) (hs : ds.Pairwise (· ≥ ·)) : ds = desc row :=
  (hp.trans (desc_perm row).symm).eq_of_pairwise (fun x y _ _ h1 h2 => Int.le_antisymm h2 h1) hs (desc_ge row)
theorem desc_gt {row : List Int} (hn : row.Nodup) : (desc row).Pairwise (· > ·) := by
  have h1 := desc_ge row
  have h2 : (desc row).Nodup := (desc_perm row).nodup_iff.mpr hn
  exact (h1.and h2).imp fun {a b} q => by have := q.1; have := q.2; omega
theorem sm_desc : ∀ (ds : List Int), ds.Pairwise (· > ·) → ∀ (j : Nat) (h : j < ds.length), sm ds ds[j] = ds.length - 1 - j
  | [], _, _, h => by simp at h
  | x :: xs, hp, 0, _ => by
    have h := (List.pairwise_cons.mp hp).1
    show ((x :: xs).filter fun z => decide (z < x)).length = _
    rw [List.filter_cons_of_neg (by simp), List.filter_eq_self.mpr (fun z hz => by simpa using h z hz)]
    simp
  | x :: xs, hp, j + 1, h => by
    have h1 := (List.pairwise_cons.mp hp).1
    have hj : j < xs.length := by simpa using h
    have ih := sm_desc xs (List.pairwise_cons.mp hp).2 j hj
    show ((x :: xs).filter fun z => decide (z < xs[j])).length = _
    rw [List.filter_cons_of_neg (by have := h1 xs[j] (List.getElem_mem hj); simp; omega)]
    show sm xs xs[j] = _
    rw [ih]
    simp only [List.length_cons]
    omega
theorem at_desc {row : List Int} (hn : row.Nodup) {k : Int} (hk : k ∈ row) : ∃ (j : Nat) (h : j < (desc row).length), (desc row)[j] = k ∧ sm row k = row.length - 1 - j := by
  obtain ⟨j, h, e⟩ := List.getElem_of_mem ((desc_perm row).mem_iff.mpr hk)
  refine ⟨j, h, e, ?_⟩
  have := sm_desc _ (desc_gt hn) j h
  rw [e, sm_perm (desc_perm row), (desc_perm row).length_eq] at this
  exact this
theorem sm_lt {row : List Int} (hn : row.Nodup) {k : Int} (hk : k ∈ row) : sm row k < row.length := by
  obtain ⟨j, h, _, e⟩ := at_desc hn hk
  rw [(desc_perm row).length_eq] at h
  omega
theorem flip_at {row : List Int} (hn : row.Nodup) {k : Int} (hk : k ∈ row) : (desc row)[sm row k]? = some (flip row k) := by
  have h : sm row k < (desc row).length := by rw [(desc_perm row).length_eq]; exact sm_lt hn hk
  unfold flip
  rw [List.getD_eq_getElem?_getD, List.getElem?_eq_getElem h]; rfl
theorem flip_mem {row : List Int} (hn : row.Nodup) {k : Int} (hk : k ∈ row) : flip row k ∈ row :=
  (desc_perm row).mem_iff.mp (List.mem_of_getElem? (flip_at hn hk))
theorem sm_flip {row : List Int} (hn : row.Nodup) {k : Int} (hk : k ∈ row) : sm row (flip row k) + sm row k + 1 = row.length := by
  obtain ⟨h, e⟩ := List.getElem?_eq_some_iff.mp (flip_at hn hk)
  have h1 := sm_desc _ (desc_gt hn) _ h
  rw [e, sm_perm (desc_perm row), (desc_perm row).length_eq] at h1
  rw [(desc_perm row).length_eq] at h
  omega
theorem sm_inj {row : List Int} (hn : row.Nodup) {a b : Int} (ha : a ∈ row) (hb : b ∈ row) (h : sm row a = sm row b) : a = b := by
  obtain ⟨i, hi, ei, si⟩ := at_desc hn ha
  obtain ⟨j, hj, ej, sj⟩ := at_desc hn hb
  have hl := (desc_perm row).length_eq
  have : i = j := by omega
  subst this
  exact ei.symm.trans ej
theorem flip_flip {row : List Int} (hn : row.Nodup) {k : Int} (hk : k ∈ row) : flip row (flip row k) = k := by
  have h1 := sm_flip hn hk
  have h2 := sm_flip hn (flip_mem hn hk)
  exact sm_inj hn (flip_mem hn (flip_mem hn hk)) hk (by omega)
theorem filter_flip {row : List Int} (hn : row.Nodup) {k : Int} (hk : k ∈ row) : (row.filter fun z => decide ((row.length : Int) - 1 - (sm row z : Int) = (sm row k : Int))) = [flip row k] := by
  have h1 : (row.filter fun z => decide ((row.length : Int) - 1 - (sm row z : Int) = (sm row k : Int))) = row.filter (· == flip row k) := by
    refine List.filter_congr fun z hz => ?_
    have e1 := sm_flip hn hk
    have e2 := sm_lt hn hz
    rw [Bool.eq_iff_iff, decide_eq_true_eq, beq_iff_eq]
    constructor
    · intro q
      exact sm_inj hn hz (flip_mem hn hk) (by omega)
    · intro q
      subst q
      omega
  rw [h1, List.filter_beq, hn.count, if_pos (flip_mem hn hk)]; rfl
theorem mir_mem {row : List Int} (hn : row.Nodup) (k : Int) : k ∈ mir row ↔ k ∈ row := by
  unfold mir
  rw [List.mem_map]
  constructor
  · rintro ⟨z, hz, rfl⟩
    exact flip_mem hn (List.mem_reverse.mp hz)
  · intro hk
    exact ⟨flip row k, List.mem_reverse.mpr (flip_mem hn hk), flip_flip hn hk⟩
theorem mir_nodup {row : List Int} (hn : row.Nodup) : (mir row).Nodup := by
  unfold mir
  rw [List.Nodup, List.pairwise_map]
  have h : row.reverse.Nodup := (List.reverse_perm row).nodup_iff.mpr hn
  refine List.Pairwise.imp_of_mem ?_ h
  intro a b ha hb hab e
  apply hab
  have := congrArg (flip row) e
  rw [flip_flip hn (List.mem_reverse.mp ha), flip_flip hn (List.mem_reverse.mp hb)] at this
  exact this
theorem mir_perm {row : List Int} (hn : row.Nodup) : (mir row).Perm row := by
  rw [List.perm_iff_count]
  intro a
  rw [(mir_nodup hn).count, hn.count]
  simp [mir_mem hn]
theorem mir_len (row : List Int) : (mir row).length = row.length := by unfold mir; simp
theorem mir_mir {row : List Int} (hn : row.Nodup) : mir (mir row) = row := by
  have hp := mir_perm hn
  have hd : desc (mir row) = desc row := (desc_uniq ((desc_perm _).trans hp) (desc_ge _))
  have hf : flip (mir row) = flip row := by
    funext k; unfold flip; rw [hd, sm_perm hp]
  show (mir row).reverse.map (flip (mir row)) = row
  rw [hf]
  unfold mir
  rw [← List.map_reverse, List.reverse_reverse, List.map_map]
  conv => rhs; rw [← List.map_id row]
  refine List.map_congr_left fun k hk => ?_
  exact flip_flip hn hk
/-- the place of a key in the ascending list -/
theorem asc_at : ∀ (asc : List Int), asc.Pairwise (· < ·) → ∀ k ∈ asc, asc[sm asc k]? = some k
  | [], _, _, h => nomatch h
  | x :: xs, hp, k, hk => by
    have h1 := (List.pairwise_cons.mp hp).1
    rcases List.mem_cons.mp hk with e | hk
    · subst e
      have : sm (k :: xs) k = 0 := by
        show ((k :: xs).filter fun z => decide (z < k)).length = 0
        rw [List.filter_cons_of_neg (by simp), List.filter_eq_nil_iff.mpr (fun z hz => by have := h1 z hz; simp; omega)]; rfl
      rw [this]; rfl
    · have hx := h1 k hk
      have : sm (x :: xs) k = sm xs k + 1 := by
        show ((x :: xs).filter fun z => decide (z < k)).length = _
        rw [List.filter_cons_of_pos (by simpa using hx)]; rfl
      rw [this]
      exact asc_at xs (List.pairwise_cons.mp hp).2 k hk
theorem asc_lt {asc row : List Int} (hp : asc.Perm row) (hs : asc.Pairwise (· ≤ ·)) (hn : row.Nodup) : asc.Pairwise (· < ·) :=
  (hs.and (hp.nodup_iff.mpr hn)).imp fun {a b} q => by have := q.1; have := q.2; omega
end MX

namespace MX
/-! inversions and thresholds: plain lists -/
def invP : List Int → List (Int × Int)
  | [] => []
  | x :: xs => ((xs.filter fun z => decide (z < x)).map fun z => (z, x)) ++ invP xs
theorem invP_snoc (y : Int) : ∀ row : List Int, (invP (row ++ [y])).Perm (invP row ++ (row.filter fun z => decide (y < z)).map fun z => (y, z))
  | [] => List.Perm.refl _
  | x :: xs => by
    have ih := invP_snoc y xs
    show (((xs ++ [y]).filter fun z => decide (z < x)).map (fun z => (z, x)) ++ invP (xs ++ [y])).Perm _
    rw [List.filter_append, List.map_append]
    by_cases h : y < x
    · rw [show ([y].filter fun z => decide (z < x)) = [y] by simp [h], List.filter_cons_of_pos (by simpa using h)]
      show _root_.List.Perm _ ((((xs.filter fun z => decide (z < x)).map fun z => (z, x)) ++ invP xs) ++ ((y, x) :: (xs.filter fun z => decide (y < z)).map fun z => (y, z)))
      rw [List.append_assoc, List.append_assoc]
      refine List.Perm.append_left _ ?_
      show ((y, x) :: invP (xs ++ [y])).Perm _
      exact (ih.cons _).trans List.perm_middle.symm
    · rw [show ([y].filter fun z => decide (z < x)) = [] by simp [h], List.filter_cons_of_neg (by simpa using h)]
      show _root_.List.Perm _ ((((xs.filter fun z => decide (z < x)).map fun z => (z, x)) ++ invP xs) ++ ((xs.filter fun z => decide (y < z)).map fun z => (y, z)))
      rw [List.map_nil, List.append_nil, List.append_assoc]
      exact List.Perm.append_left _ ih
theorem invP_len : ∀ row : List Int, (invP row).length ≤ row.length * row.length
  | [] => Nat.le_refl _
  | x :: xs => by
    have ih := invP_len xs
    have h := List.length_filter_le (fun z => decide (z < x)) xs
    simp only [invP, List.length_append, List.length_map, List.length_cons]
    rw [Nat.add_mul, Nat.mul_add]; omega
theorem invP_mem : ∀ (row : List Int) (p : Int × Int), p ∈ invP row → p.1 ∈ row ∧ p.2 ∈ row
  | [], _, h => nomatch h
  | x :: xs, p, h => by
    rcases List.mem_append.mp h with h | h
    · obtain ⟨z, hz, rfl⟩ := List.mem_map.mp h
      exact ⟨List.mem_cons_of_mem _ (List.mem_filter.mp hz).1, List.mem_cons_self⟩
    · have := invP_mem xs p h
      exact ⟨List.mem_cons_of_mem _ this.1, List.mem_cons_of_mem _ this.2⟩
def asc (row : List Int) : List Int := row.mergeSort fun a b => decide (a ≤ b)
theorem asc_perm (row : List Int) : (asc row).Perm row := List.mergeSort_perm _ _
theorem asc_le (row : List Int) : (asc row).Pairwise (· ≤ ·) := by
  have h := List.pairwise_mergeSort (le := fun a b : Int => decide (a ≤ b)) (by intro a b c; simp; omega) (by intro a b; simp; omega) row
  exact h.imp fun {a b} q => by simpa using q
theorem asc_uniq {row ds : List Int} (hp : ds.Perm row) (hs : ds.Pairwise (· ≤ ·)) : ds = asc row :=
  (hp.trans (asc_perm row).symm).eq_of_pairwise (fun _ _ _ _ h1 h2 => Int.le_antisymm h1 h2) hs (asc_le row)
def thr (row : List Int) : List Int := (asc row).dropLast
/-- the thresholds: keys below some key -/
theorem thr_iff {row : List Int} (hn : row.Nodup) (t : Int) : t ∈ thr row ↔ t ∈ row ∧ ∃ z ∈ row, t < z := by
  have hs := asc_le row
  have hp := asc_perm row
  have hnd : (asc row).Nodup := hp.nodup_iff.mpr hn
  unfold thr
  generalize asc row = l at hs hp hnd
  rcases List.eq_nil_or_concat l with e | ⟨ini, last, e⟩
  · subst e
    have : row = [] := List.Perm.eq_nil hp.symm
    subst this
    simp
  · subst e
    rw [List.concat_eq_append] at *
    rw [List.dropLast_concat]
    have h1 := List.pairwise_append.mp hs
    have h2 := List.nodup_append.mp hnd
    constructor
    · intro ht
      refine ⟨hp.mem_iff.mp (List.mem_append_left _ ht), last, hp.mem_iff.mp (by simp), ?_⟩
      have a := h1.2.2 t ht last (by simp)
      have b := h2.2.2 t ht last (by simp)
      omega
    · rintro ⟨ht, z, hz, hlt⟩
      rcases List.mem_append.mp (hp.mem_iff.mpr ht) with q | q
      · exact q
      · rw [List.mem_singleton] at q
        subst q
        exfalso
        rcases List.mem_append.mp (hp.mem_iff.mpr hz) with r | r
        · have := h1.2.2 z r t (by simp); omega
        · rw [List.mem_singleton] at r; omega
/-- the places of the light keys -/
def lights (row : List Int) (t : Int) : List Int := ((List.range row.length).filter fun i => decide (row.getD i 0 ≤ t)).map fun (i : Nat) => (i : Int)
end MX

namespace KX
open PySem PySem.Spec L2 MX
open PyProof.Rows hiding St
/-! pairs of ints in tuples -/
def PairAt (H : Hp) (v : V) (p : Int × Int) : Prop := ∃ t, v = .ref t ∧ H t = some (.tup [.int p.1, .int p.2])
abbrev PairsAt (H : Hp) : List V → List (Int × Int) → Prop := Paired (PairAt H)
theorem PairsAt.same {H H' : Hp} (s : Same H H') {vs : List V} {ps : List (Int × Int)} (h : PairsAt H vs ps) : PairsAt H' vs ps := L2.Paired.mapP h fun _ _ ⟨t, e, q⟩ => ⟨t, e, s _ _ q⟩
theorem PairsAt.snoc {H : Hp} : ∀ {vs : List V} {ps : List (Int × Int)} {v : V} {p : Int × Int}, PairsAt H vs ps → PairAt H v p → PairsAt H (vs ++ [v]) (ps ++ [p])
  | _, _, _, _, .nil, q => .cons q .nil
  | _, _, _, _, .cons r t, q => .cons r (PairsAt.snoc t q)
def pairD (p : Int × Int) : PyData := .tuple [.int p.1, .int p.2]
theorem PairsAt.dq {K : PySem.W.Frag} {H : Hp} : ∀ {vs : List V} {ps : List (Int × Int)}, PairsAt H vs ps → DqAll K H vs (ps.map pairD)
  | _, _, .nil => .nil
  | _, _, .cons ⟨t, e, q⟩ r => by
    subst e
    exact .cons (.tup (SqT.of q) (.cons (.int _) (.cons (.int _) .nil))) (PairsAt.dq r)
theorem PairsAt.len {H : Hp} {vs : List V} {ps : List (Int × Int)} (h : PairsAt H vs ps) : vs.length = ps.length := Paired.length h
def keyOf (H : Hp) : V → Int × Int
  | .ref t => match H t with
    | some (.tup [.int i, .int j]) => (i, j)
    | _ => (0, 0)
  | _ => (0, 0)
theorem keyOf_at {H : Hp} {v : V} {p : Int × Int} (h : PairAt H v p) : keyOf H v = p := by
  obtain ⟨t, rfl, q⟩ := h
  unfold keyOf
  simp only [q]
theorem keyOf_all {H : Hp} : ∀ {vs : List V} {ps : List (Int × Int)}, PairsAt H vs ps → vs.map (keyOf H) = ps
  | _, _, .nil => rfl
  | _, _, .cons h t => by rw [List.map_cons, keyOf_at h, keyOf_all t]
theorem mem_at {H : Hp} : ∀ {vs : List V} {ps : List (Int × Int)}, PairsAt H vs ps → ∀ v ∈ vs, PairAt H v (keyOf H v)
  | _, _, .nil, _, h => nomatch h
  | _, _, .cons h t, v, hv => by
    rcases List.mem_cons.mp hv with e | hv
    · subst e; rw [keyOf_at h]; exact h
    · exact mem_at t v hv
theorem pairs_of {H : Hp} : ∀ {ys : List V}, (∀ v ∈ ys, PairAt H v (keyOf H v)) → PairsAt H ys (ys.map (keyOf H))
  | [], _ => .nil
  | y :: ys, h => .cons (h y List.mem_cons_self) (pairs_of fun v hv => h v (List.mem_cons_of_mem _ hv))
def LexOrd (ps : List (Int × Int)) : Prop := ps.Pairwise fun x y => SrtO.lexB y x = false
theorem lex_uniq {ps qs : List (Int × Int)} (hp : ps.Perm qs) (h1 : LexOrd ps) (h2 : LexOrd qs) : ps = qs := by
  refine hp.eq_of_pairwise (fun x y _ _ a b => ?_) h1 h2
  have na : ¬ SrtO.lexB y x = true := by rw [a]; exact Bool.false_ne_true
  have nb : ¬ SrtO.lexB x y = true := by rw [b]; exact Bool.false_ne_true
  rw [SrtO.lexB_iff] at na nb
  obtain ⟨x1, x2⟩ := x
  obtain ⟨y1, y2⟩ := y
  simp only at na nb
  have e1 : x1 = y1 := by omega
  have e2 : x2 = y2 := by omega
  rw [e1, e2]
/-- what sorted gives of such a list -/
theorem sorted_pairs {H : Hp} {vs ys : List V} {ps : List (Int × Int)} (h : PairsAt H vs ps) (h1 : SrtO.Srtd (ltP (keyOf H)) ys) (h2 : SrtO.Stb (ltP (keyOf H)) ys vs) : PairsAt H ys (ys.map (keyOf H)) ∧ (ys.map (keyOf H)).Perm ps ∧ LexOrd (ys.map (keyOf H)) := by
  refine ⟨pairs_of fun v hv => mem_at h v (h2.perm.mem_iff.mp hv), ?_, List.pairwise_map.mpr h1⟩
  have := h2.perm.map (keyOf H)
  rw [keyOf_all h] at this
  exact this
/-- the inversions of a row -/
def spInv (K : PySem.W.Frag) : Sp := fun vs H Q _ => ∃ (a : Addr) (row : List Int), vs = [.ref a] ∧ SqT K H a (row.map V.int) ∧ row.length ≤ 29 ∧
  ∀ (p : Addr) (H' : Hp) (ts : List V) (ps : List (Int × Int)), Same H H' → ps.Perm (invP row) → LexOrd ps → H' p = some (.tup ts) → PairsAt H' ts ps → Q (.ref p) H'
/-- thresholds as data -/
def thD (row : List Int) : PyData → Bool
  | .int i => keyD (.int i) && decide (i ∈ thr row)
  | _ => false
def spIsThr (K : PySem.W.Frag) : Sp := fun vs H Q _ => ∃ (a : Addr) (row : List Int) (v : V) (dd : PyData), vs = [.ref a, v] ∧ SqT K H a (row.map V.int) ∧ RowOk row ∧ row.length ≤ 29 ∧ Dq K H v dd ∧ ∀ H', Same H H' → Q (.bl (thD row dd)) H'
/-- the places, or the error with the value -/
def spLight (K : PySem.W.Frag) (C : Addr) : Sp := fun vs H Q E => ∃ (a : Addr) (row : List Int) (v : V) (dd : PyData), vs = [.ref a, v] ∧ SqT K H a (row.map V.int) ∧ RowOk row ∧ row.length ≤ 29 ∧ Dq K H v dd ∧
  (thD row dd = false → ∀ (d : Addr) (H' : Hp), Same H H' → H' d = none → E (.ref C) (some d) (upd H' d (.xd [("value", v)]))) ∧
  ∀ (i : Int), dd = .int i → thD row dd = true → ∀ (p : Addr) (H' : Hp), Same H H' → H' p = some (.tup ((lights row i).map V.int)) → Q (.ref p) H'
/-- the answer of a question for light places: the value in a list, or the places -/
def spTold (K : PySem.W.Frag) : Sp := fun vs H Q _ => ∃ (a : Addr) (row : List Int) (v : V) (dd : PyData), vs = [.ref a, v] ∧ SqT K H a (row.map V.int) ∧ RowOk row ∧ row.length ≤ 29 ∧ Dq K H v dd ∧
  (thD row dd = false → ∀ (l : Addr) (H' : Hp), Same H H' → H' l = some (.lst [v]) → Q (.ref l) H') ∧
  ∀ (i : Int), dd = .int i → thD row dd = true → ∀ (p : Addr) (H' : Hp), Same H H' → H' p = some (.tup ((lights row i).map V.int)) → Q (.ref p) H'
theorem cut_last (ks : List Int) : cutV (ks.map V.int) none (some (-1)) = ks.dropLast.map V.int := by
  unfold cutV
  have e : HT.sIx (ks.map V.int).length (ks.map V.int).length (some (-1)) = ks.length - 1 := by
    rw [List.length_map]
    show (if (-1 : Int) < 0 then ((-1 : Int) + (ks.length : Int)).toNat else min (-1 : Int).toNat ks.length) = ks.length - 1
    rw [if_pos (by decide)]; omega
  rw [HT.sIx_none, e, List.drop_zero, Nat.sub_zero, List.dropLast_eq_take, List.map_take]
theorem in_ints (z : Int) : ∀ ns : List Int, inV (.int z) (ns.map V.int) = decide (z ∈ ns)
  | [] => by simp [inV]
  | n :: ns => by
    have ih := in_ints z ns
    unfold inV at ih ⊢
    rw [List.map_cons, List.any_cons, ih]
    by_cases h : n = z
    · subst h; simp [eqV]
    · have h2 : ¬ z = n := fun q => h q.symm
      simp [eqV, h, h2]
theorem flat_ints (ns : List Int) : (ns.map V.int).all flatV = true := by
  rw [List.all_map]; exact List.all_eq_true.mpr fun _ _ => rfl
end KX

namespace LW
open PySem L2 KX
def top (i : Nat) : Stmt := PySem.Challenge.pw_oddrounds_k04_inversions_and_light_place.main.body.getD i (.Pass ⟨0, 0, 0, 0⟩)
abbrev sSupply : Stmt := top 14
abbrev sTake : Stmt := top 15
section
variable {P : Program} {w : World} {K : PySem.W.Frag} {mg : Str → Option Value} {base : Heap}
theorem scTake : FnScope ["_law_supply_here", "_law_many", "_law_cells", "_law_turn", "_law_at", "_law_cell"] ["_law_supply_here", "_law_many"] (defScope sTake) := ⟨rfl, rfl, rfl, by decide +kernel, rfl, by decide +kernel, by decide +kernel⟩
theorem ok_take {f : Addr} {fd : FuncData} (F : Fun K "_law_take" "_law_take" sTake f fd) (mlen : mg "len" = none) : FnOk P w K mg base CX0 1 f fd ["_law_supply_here", "_law_many"] spTake := by
  refine F.ok scTake (fun vs H Q E h => ?_) (fun cdv A outer s H vs Q E hr h => ?_)
  · obtain ⟨d, c, m, rfl, _⟩ := h
    rfl
  · obtain ⟨d, c, m, rfl, S, hm0, hm, k⟩ := h
    have hu := hu_of hr
    obtain ⟨cells, t, b, hd, hc, hl, hb0, hb⟩ := S.ex
    have ndc : d ≠ c := S.ne
    refine ⟨_, pss_cons (ps_par (i := 2) (j := 3) rfl scTake.nd rfl rfl (by decide) rfl rfl (pa_cons (pe_dget hu (pv 0) pe_str (fun _ _ => rfl)) (pa_cons (pe_dget hu (pv 0) pe_str (fun _ _ => rfl)) pa_nil)) (by rfl))
      (pss_cons (ps_dput hu (pv 0) pe_str (pe_op op_add (pv 3) pe_int) rfl)
      (pss_cons (ps_if (pt_cmpR (op_neD hr.units) (pv 2) (pe_lst pa_nil) (nomark _))
        (pss_cons (ps_set (i := 4) scTake.nd rfl (.inl rfl) (pe_op op_mod (pv 3) (pe_callB call_len_seq (by rfl) mlen PySem.boot_len (pa_cons (pv 2) pa_nil))))
        (pss_cons (ps_set (i := 5) scTake.nd rfl (.inl rfl) (pe_ix ix_list (pv 2) (pv 4) (fun _ _ => rfl)))
        (pss_cons (ps_if (pt_cmpR op_ge (pv 5) (pe_op op_pow pe_int pe_int) (nomark _))
          (pss_cons (ps_asg (pe_op op_fdivW (pv 5) (pv 1)) (pg_sub (pv 2) (pv 4) set_list))
          (pss_one (ps_ret (pe_op op_mod (pv 5) (pv 1))))) pss_nil)
        (pss_one (ps_dput hu (pv 0) pe_str (pe_op op_mod (pe_op op_add (pe_op op_add (pe_op op_mul (pe_dget hu (pv 0) pe_str (fun _ _ => rfl)) pe_int) (pv 5)) (pv 3)) pe_int) rfl))))) pss_nil)
      (pss_cons (ps_dput hu (pv 0) pe_str (pe_op op_mod (pe_op op_add (pe_op op_add (pe_op op_mul (pe_dget hu (pv 0) pe_str (fun _ _ => rfl)) pe_int) (pe_op op_mul pe_int (pv 3))) pe_int) pe_int) rfl)
      (pss_one (ps_ret (pe_op op_mod (pe_op op_fdiv (pe_op op_mod (pe_op op_mul (pe_dget hu (pv 0) pe_str (fun _ _ => rfl)) (pe_dget hu (pv 0) pe_str (fun _ _ => rfl))) pe_int) pe_int) (pv 1))))))), ?_⟩
    -- the two reads, the turn
    refine ⟨_, rfl, d, _, rfl, sup_get hd (sup_cells c t b), _, rfl, d, _, rfl, sup_get hd (sup_turn c t b), _, _, rfl, ?_⟩
    refine ⟨_, rfl, _, _, rfl, rfl, _, rfl, d, _, rfl, sup_setT hd, ?_⟩
    have hd1 : upd H d (.dK (supD c (t + 1) b)) d = some (.dK (supD c (t + 1) b)) := upd_same
    have hc1 : upd H d (.dK (supD c (t + 1) b)) c = some (.lst (cells.map V.int)) := by rw [upd_ne ndc.symm]; exact hc
    have sx1 : SameX H (upd H d (.dK (supD c (t + 1) b))) d c := fun x o h1 _ e => by rw [upd_ne h1]; exact e
    generalize upd H d (.dK (supD c (t + 1) b)) = H1 at hd1 hc1 sx1 ⊢
    refine ⟨_, rfl, Nat.zero_le _, fun e he => nonempty_data (ns := cells) (SqL.of (by rw [upd_ne (ne_of_none hc1 he)]; exact hc1)) (SqL.of upd_same) ⟨_, rfl, ?_⟩⟩
    have hd2 : upd H1 e (.lst []) d = some (.dK (supD c (t + 1) b)) := by rw [upd_ne (ne_of_none hd1 he)]; exact hd1
    have hc2 : upd H1 e (.lst []) c = some (.lst (cells.map V.int)) := by rw [upd_ne (ne_of_none hc1 he)]; exact hc1
    have sx2 : SameX H (upd H1 e (.lst [])) d c := sx1.trans (.of d c (same_new he))
    generalize upd H1 e (.lst []) = H2 at hd2 hc2 sx2 ⊢
    by_cases hn : cells = []
    · rw [decide_eq_true hn]
      refine iteF ?_
      exact last_run hm0 hd2 hc2 hl sx2 hb0 hb k
    · rw [decide_eq_false hn]
      refine iteT ?_
      have hp : 0 < cells.length := List.length_pos_iff.mpr hn
      have hpi : (0 : Int) < ((cells.map V.int).length : Int) := by rw [List.length_map]; omega
      refine ⟨_, rfl, _, rfl, c, _, rfl, .inl (SqL.of hc2), _, _, rfl, rfl, hpi, ?_⟩
      obtain ⟨j, hj, hjl⟩ : ∃ j : Nat, t % ((cells.map V.int).length : Int) = (j : Int) ∧ j < cells.length := by
        have h := emod_in (a := t) hpi
        rw [List.length_map] at h ⊢
        exact ⟨(t % (cells.length : Int)).toNat, by omega, by omega⟩
      show gName 4 (V.int (t % ((cells.map V.int).length : Int))) _ _ _
      rw [hj]
      have hat : (cells.map V.int)[j]? = some (V.int cells[j]) := by rw [List.getElem?_map, List.getElem?_eq_getElem hjl]; rfl
      refine ⟨_, rfl, _, rfl, c, _, _, _, rfl, rfl, SqL.of hc2, atI_nat hat, ?_⟩
      generalize cells[j] = z
      refine ⟨_, rfl, _, _, rfl, rfl, ⟨by decide, by decide, by decide⟩, _, _, rfl, rfl, _, rfl, ?_⟩
      refine ite2 (fun _ => ?_) (fun _ => ?_)
      · -- a great cell: the quotient stays, the rest is drawn
        refine ⟨_, rfl, _, rfl, _, _, rfl, rfl, wide_div hm0 (nats62 hm0 hm) (by decide) (by decide), _, rfl, _, rfl, c, _, _, j, rfl, rfl, hc2, ix_at (by rw [List.length_map]; exact hjl), ?_⟩
        have es : (cells.map V.int).set j (V.int (z / m)) = (cells.set j (z / m)).map V.int := by rw [List.map_set]
        refine ⟨_, rfl, _, rfl, _, _, rfl, rfl, hm0, ?_⟩
        refine k _ _ (emod_in hm0).1 (emod_in hm0).2 ⟨cells.set j (z / m), t + 1, b, ?_, ?_, by rw [List.length_set]; exact hl, hb0, hb⟩ ?_
        · rw [upd_ne ndc]; exact hd2
        · exact upd_same.trans (congrArg (fun l => some (HO.lst l)) es)
        · intro x o h1 h2 e
          rw [upd_ne h2]; exact sx2 x o h1 h2 e
      · refine ⟨_, rfl, d, _, rfl, sup_get hd2 (sup_blend c (t + 1) b), _, _, rfl, rfl, .inl ⟨by omega, by omega⟩, _, rfl, _, _, rfl, rfl, _, rfl, _, _, rfl, rfl, _, _, rfl, rfl, (by show (0 : Int) < 2147483647; decide), _, rfl, d, _, rfl, sup_setB hd2, ?_⟩
        have hb1 := emod_in (a := b * 16807 + z + t) (m := 2147483647) (by decide)
        refine last_run (b2 := (b * 16807 + z + t) % 2147483647) hm0 upd_same (by rw [upd_ne ndc.symm]; exact hc2) hl (fun x o h1 h2 e => by rw [upd_ne h1]; exact sx2 x o h1 h2 e) hb1.1 hb1.2 k
theorem scSupply : FnScope ["_law_script", "_law_cell"] ["_law_script"] (defScope sSupply) := ⟨rfl, rfl, rfl, by decide +kernel, rfl, by decide +kernel, by decide +kernel⟩
theorem ok_supply {f : Addr} {fd : FuncData} (F : Fun K "_law_supply" "_law_supply" sSupply f fd) (mlen : mg "len" = none) (mabs : mg "abs" = none) : FnOk P w K mg base CX0 1 f fd ["_law_script"] (spSupply K) := by
  refine F.ok scSupply (fun vs H Q E h => ?_) (fun cdv A outer s H vs Q E hr h => ?_)
  · obtain ⟨a, ns, rfl, _⟩ := h
    rfl
  · obtain ⟨a, ns, rfl, hS, hl, k⟩ := h
    refine ⟨_, pss_one (ps_ret (pe_disp (pps_cons pe_str (pe_lc (own := [("_law_cell", 1)]) (g := gName 1) (tt := tYes) rfl scSupply.nd (pi_list (pe_slice sl_list (pv 0) po_none (po_some pe_int)))
        (blkOk_by (own := [("_law_cell", 1)]) (N := ["_law_script", "_law_cell"]) (sc := defScope sSupply) (by decide +kernel)) (fun _ _ _ _ _ => pg_name (i := 1) scSupply.nd rfl (.inl rfl)) (fun _ _ _ _ _ => pts_nil)
        (fun _ _ _ _ _ => pe_callB call_abs (by rfl) mabs (by decide +kernel) (pa_cons (pv 1) pa_nil)))
      (pps_cons pe_str pe_int (pps_cons pe_str (pe_op op_add pe_int (pe_op op_mul pe_int (pe_callB call_len_seq (by rfl) mlen PySem.boot_len (pa_cons (pv 0) pa_nil)))) pps_nil))) (by rfl) (by rfl) (fun z => by cases z) (by decide))), ?_⟩
    intro d hd
    refine ⟨_, rfl, 63, rfl, a, _, rfl, (same_new hd).seq hS, fun q hq => ?_⟩
    obtain ⟨ms, em, hml⟩ := cut_ints ns none (some 63)
    rw [em]
    have fr1 : ∀ {b : Addr}, upd (upd H d (.dK [])) q (.lst (ms.map V.int)) b = none → b ≠ d ∧ b ≠ q ∧ H b = none := by
      intro b hb
      have h1 : b ≠ q := fun z => by rw [z, upd_same] at hb; cases hb
      rw [upd_ne h1] at hb
      have h2 : b ≠ d := fun z => by rw [z, upd_same] at hb; cases hb
      rw [upd_ne h2] at hb
      exact ⟨h2, h1, hb⟩
    have hq0 : H q = none := (same_new hd).free hq
    have nqd : q ≠ d := fun z => by rw [z, upd_same] at hq; cases hq
    have dd : upd (upd H d (.dK [])) q (.lst (ms.map V.int)) d = some (.dK []) := by rw [upd_ne nqd.symm]; exact upd_same
    have sm : Same H (upd (upd H d (.dK [])) q (.lst (ms.map V.int))) := (same_new hd).trans (same_new hq)
    refine ⟨q, rfl, ⟨_, SqL.of upd_same⟩, fun c hc => ?_⟩
    obtain ⟨ncd, ncq, hc0⟩ := fr1 hc
    have hqq : upd (upd H d (.dK [])) q (.lst (ms.map V.int)) q = some (.lst (ms.map V.int)) := upd_same
    generalize upd (upd H d (.dK [])) q (.lst (ms.map V.int)) = H1 at dd sm hc hqq ⊢
    refine lc_list (K := K) (a := q) (xs := ms.map V.int) (fun i Hx => ∃ cs : List Int, cs.length = i ∧ At H1 Hx c (cs.map V.int)) ⟨[], rfl, At.nil hc⟩ (fun i Hx _ ⟨_, _, aa⟩ => SqL.of (aa.1 _ _ hqq)) ?_ ?_
    · rintro i y Hx hi ⟨cs, hcs, aa⟩
      obtain ⟨z, _, rfl, hil⟩ := getI hi
      refine ⟨rfl, _, rfl, z, rfl, cs.map V.int, aa.2, by rw [List.length_map]; exact small1000 (by omega), cs ++ [if z < 0 then -z else z], by simp [hcs], ?_⟩
      have e := aa.push hc ((cs ++ [if z < 0 then -z else z]).map V.int)
      rw [List.map_append] at e ⊢
      exact e
    · rintro Hx ⟨cs, hcs, aa⟩
      rw [List.length_map] at hcs
      refine ⟨_, rfl, a, _, rfl, .inl ((sm.trans aa.1).seq hS), _, _, rfl, rfl, .inl ⟨by decide, by decide⟩, _, _, rfl, rfl, aa.1 _ _ dd, supD c 0 (97 + 31 * ((ns.map V.int).length : Int)), rfl, by show 3 ≤ 15; decide, ?_⟩
      rw [sup_make]
      have hl2 : ((ns.map V.int).length : Int) ≤ 63 := by rw [List.length_map]; omega
      refine k d c _ hd hc0 (fun b o e => by rw [upd_ne (ne_of_none e hd)]; exact aa.1 _ _ (sm _ _ e)) ⟨cs, 0, _, upd_same, by rw [upd_ne ncd]; exact aa.2, by omega, by omega, by omega⟩
end
end LW

namespace LW
open PySem L2 KX
abbrev sStir : Stmt := top 17
section
variable {P : Program} {w : World} {K : PySem.W.Frag} {mg : Str → Option Value} {base : Heap}
theorem scStir : FnScope ["_law_supply_here", "_law_items", "_law_left", "_law_found"] ["_law_supply_here", "_law_items"] (defScope sStir) := ⟨rfl, rfl, rfl, by decide +kernel, rfl, by decide +kernel, by decide +kernel⟩
theorem ok_stir {f fT : Addr} {fd fdT : FuncData} (F : Fun K "_law_stirred" "_law_stirred" sStir f fd) (GT : FnOk P w K mg base CX0 1 fT fdT ["_law_supply_here", "_law_many"] spTake) (mT : mg "_law_take" = some (.ref fT)) (kT : PySem.W.keepIn K (.ref fT) = true) (bT : Binds K fdT ["_law_supply_here", "_law_many"] [])
    (mlen : mg "len" = none) (mlist : mg "list" = none) : FnOk P w K mg base CX0 2 f fd ["_law_supply_here", "_law_items"] (spStir K) := by
  refine F.ok scStir (fun vs H Q E h => ?_) (fun cdv A outer s H vs Q E hr h => ?_)
  · obtain ⟨d, c, a, ks, rfl, _⟩ := h
    rfl
  · obtain ⟨d, c, a, ks, rfl, S, hS, hl, k⟩ := h
    refine ⟨_, pss_cons (ps_par (i := 2) (j := 3) rfl scStir.nd rfl rfl (by decide) rfl rfl (pa_cons (pe_callTy call_list_of (by rfl) mlist (by decide +kernel) (pa_cons (pv 1) pa_nil)) (pa_cons (pe_lst pa_nil) pa_nil)) (by rfl))
      (pss_cons (ps_while PassesOwn.never (pt_cmpR (op_neD hr.units) (pv 2) (pe_lst pa_nil) (nomark _))
        (pss_one (ps_expr (pe_bm PySem.F.plainAttrs_list PySem.F.slot_list_append PySem.F.type_list_append mt_append (pv 3) (pa_cons
          (pe_bm PySem.F.plainAttrs_list PySem.F.slot_list_pop PySem.F.type_list_pop mt_popAt (pv 2) (pa_cons (pe_call GT hr (by rfl) mT kT bT .nil pass0 (pa_cons (pv 0) (pa_cons (pe_callB call_len_seq (by rfl) mlen PySem.boot_len (pa_cons (pv 2) pa_nil)) pa_nil))) pa_nil)) pa_nil)))))
      (pss_one (ps_ret (pv 3)))), ?_⟩
    refine ⟨_, rfl, a, _, rfl, .inl hS, fun l hl1 => ⟨Nat.zero_le _, fun g hg1 => ⟨_, _, rfl, ?_⟩⟩⟩
    have hg0 : H g = none := (same_new hl1).free hg1
    have hgl : g ≠ l := fun z => by rw [z, upd_same] at hg1; cases hg1
    have s1 : Same H (upd (upd H l (.lst (ks.map V.int))) g (.lst [])) := (same_new hl1).trans (same_new hg1)
    have hl2 : upd (upd H l (.lst (ks.map V.int))) g (.lst []) l = some (.lst (ks.map V.int)) := by rw [upd_ne hgl.symm]; exact upd_same
    have hg2 : upd (upd H l (.lst (ks.map V.int))) g (.lst []) g = some (.lst []) := upd_same
    generalize upd (upd H l (.lst (ks.map V.int))) g (.lst []) = H1 at s1 hl2 hg2 ⊢
    refine while_by (fun σ H2 => ∃ left found : List Int, σ = [some (.ref d), some (.ref a), some (.ref l), some (.ref g)] ∧ Sup H2 d c ∧ SameX H H2 d c ∧ H2 l = some (.lst (left.map V.int)) ∧ H2 g = some (.lst (found.map V.int)) ∧ (found ++ left).Perm ks)
      (fun _ H2 => match H2 l with | some (.lst xs) => xs.length | _ => 0) ⟨ks, [], rfl, S.same s1, .of d c s1, hl2, hg2, List.Perm.refl _⟩ ?_ ?_
    · rintro σ H2 ⟨left, found, rfl, S2, x2, h1, h2, hp⟩
      have hll : found.length + left.length ≤ 63 := by
        have := hp.length_eq
        rw [List.length_append] at this
        omega
      refine ⟨_, rfl, Nat.zero_le _, fun e he => nonempty_data (ns := left) (SqL.of (by rw [upd_ne (ne_of_none h1 he)]; exact h1)) (SqL.of upd_same) ⟨_, rfl, ?_⟩⟩
      have x3 : SameX H (upd H2 e (.lst [])) d c := x2.trans (.of d c (same_new he))
      have h13 := same_new (o := .lst []) he _ _ h1
      have h23 := same_new (o := .lst []) he _ _ h2
      have S3 := S2.same (same_new (o := .lst []) he)
      generalize upd H2 e (.lst []) = H3 at x3 h13 h23 S3 ⊢
      by_cases hn : left = []
      · rw [decide_eq_true hn]
        refine iteF ?_
        subst hn
        rw [List.append_nil] at hp
        exact ⟨_, rfl, k g H3 found hp S3 x3 hg0 h23⟩
      · rw [decide_eq_false hn]
        refine iteT ?_
        have hpos : 0 < left.length := List.length_pos_iff.mpr hn
        have hdl : l ≠ d := fun z => S.hasD (by rw [← z]; exact hl1)
        have hcl : l ≠ c := fun z => S.hasC (by rw [← z]; exact hl1)
        have hdg : g ≠ d := fun z => S.hasD (by rw [← z]; exact hg0)
        have hcg : g ≠ c := fun z => S.hasC (by rw [← z]; exact hg0)
        refine ⟨_, rfl, .inl ⟨rfl, _, SqL.of h23⟩, _, rfl, .inl ⟨rfl, _, SqL.of h13⟩, _, rfl, _, rfl, l, _, rfl, .inl (SqL.of h13), d, c, _, rfl, S3, by rw [List.length_map]; omega, by rw [List.length_map]; omega, ?_⟩
        intro r H4 hr0 hr1 S4 x4
        have h14 := x4 _ _ hdl hcl h13
        have h24 := x4 _ _ hdg hcg h23
        rw [List.length_map] at hr1
        obtain ⟨j, rfl, hj⟩ : ∃ j : Nat, r = (j : Int) ∧ j < left.length := ⟨r.toNat, by omega, by omega⟩
        have hjm : j < (left.map V.int).length := by rw [List.length_map]; exact hj
        have hat : (left.map V.int)[j]? = some (V.int left[j]) := by rw [List.getElem?_map, List.getElem?_eq_getElem hj]; rfl
        refine ⟨l, _, _, j, _, rfl, rfl, h14, by omega, by omega, (ixN_seq (ix_at hjm)).1, hat, ?_⟩
        refine ⟨g, _, _, rfl, rfl, by rw [upd_ne hgl]; exact h24, by rw [List.length_map]; exact small1000 (by omega), ?_⟩
        have e1 : (left.map V.int).eraseIdx j = (left.eraseIdx j).map V.int := erase_map _ _ _
        have e2 : found.map V.int ++ [V.int left[j]] = (found ++ [left[j]]).map V.int := by rw [List.map_append]; rfl
        rw [e1, e2]
        have hL : upd (upd H4 l (.lst ((left.eraseIdx j).map V.int))) g (.lst ((found ++ [left[j]]).map V.int)) l = some (.lst ((left.eraseIdx j).map V.int)) := by rw [upd_ne hgl.symm]; exact upd_same
        refine ⟨⟨left.eraseIdx j, found ++ [left[j]], rfl, (S4.upd hdl hcl).upd hdg hcg, fun b o n1 n2 e => ?_, hL, upd_same, ?_⟩, ?_⟩
        · rw [upd_ne (ne_of_none e hg0), upd_ne (ne_of_none e hl1)]
          exact x4 b o n1 n2 (x3 b o n1 n2 e)
        · refine List.Perm.trans ?_ hp
          rw [List.append_assoc]
          refine List.Perm.append_left found ?_
          exact erase_perm left j hj
        · rw [hL, h1]
          show ((left.eraseIdx j).map V.int).length < (left.map V.int).length
          rw [List.length_map, List.length_map, List.length_eraseIdx, if_pos hj]
          omega
    · rintro σ H2 Q1 Q2 hq ⟨v, hv, hz, h⟩
      exact ⟨v, hv, hz, fun p hp => by
        obtain ⟨d1, e1, a1, a2, a3, a4, kk, a5, a6⟩ := h p hp
        exact ⟨d1, e1, a1, a2, a3, a4, kk, a5, hq _ _ a6⟩⟩
end
end LW

namespace LW
open PySem L2 KX
abbrev sKeys : Stmt := top 18
abbrev nKeys : List Str := ["_law_supply_here", "_law_n", "_law_way", "_law_found", "_law_key", "_law_k", "_law_one_here"]
section
variable {P : Program} {w : World} {K : PySem.W.Frag} {mg : Str → Option Value} {base : Heap}
theorem scKeys : FnScope nKeys ["_law_supply_here", "_law_n"] (defScope sKeys) := ⟨rfl, rfl, rfl, by decide +kernel, rfl, by decide +kernel, by decide +kernel⟩
theorem ok_keys {f fT : Addr} {fd fdT : FuncData} (F : Fun K "_law_keys" "_law_keys" sKeys f fd) (GT : FnOk P w K mg base CX0 1 fT fdT ["_law_supply_here", "_law_many"] spTake) (mT : mg "_law_take" = some (.ref fT)) (kT : PySem.W.keepIn K (.ref fT) = true) (bT : Binds K fdT ["_law_supply_here", "_law_many"] [])
    (mran : mg "range" = none) : FnOk P w K mg base CX0 2 f fd ["_law_supply_here", "_law_n"] spKeys := by
  refine F.ok scKeys (fun vs H Q E h => ?_) (fun cdv A outer s H vs Q E hr h => ?_)
  · obtain ⟨d, c, n, rfl, _⟩ := h
    rfl
  · obtain ⟨d, c, n, rfl, S, hn1, hn2, k⟩ := h
    refine ⟨_, pss_cons (ps_asg (pe_tup (pa_cons (pe_call GT hr (by rfl) mT kT bT .nil pass0 (pa_cons (pv 0) (pa_cons pe_int pa_nil))) (pa_cons (pe_lst pa_nil) (pa_cons pe_int pa_nil))))
          (pg_tup rfl (pgs_cons (pg_name (i := 2) scKeys.nd rfl (.inl rfl)) (pgs_cons (pg_name (i := 3) scKeys.nd rfl (.inr rfl)) (pgs_cons (pg_name (i := 4) scKeys.nd rfl (.inl rfl)) pgs_nil)))))
      (pss_cons (ps_for PassesOwn.never rfl (pi_range1 (by rfl) mran (pa_cons (pv 1) pa_nil)) (pg_name (i := 5) scKeys.nd rfl (.inl rfl))
        (pss_cons (ps_expr (pe_bm PySem.F.plainAttrs_list PySem.F.slot_list_append PySem.F.type_list_append mt_append (pv 3) (pa_cons (pv 4) pa_nil)))
        (pss_one (ps_set (i := 4) scKeys.nd rfl (.inl rfl) (pe_op op_add (pe_op op_add (pv 4) pe_int) (pe_ix ix_list (pe_lst (pa_cons pe_int (pa_cons (pe_call GT hr (by rfl) mT kT bT .nil pass0 (pa_cons (pv 0) (pa_cons pe_int pa_nil)))
          (pa_cons (pe_call GT hr (by rfl) mT kT bT .nil pass0 (pa_cons (pv 0) (pa_cons (pe_op op_pow pe_int pe_int) pa_nil))) pa_nil)))) (pv 2) (fun _ _ => rfl)))))))
      (pss_cons (ps_if (pt_cmpR op_eq (pv 2) pe_int (nomark _)) (pss_one (ps_set (i := 3) scKeys.nd rfl (.inr rfl) (pe_lc (own := [("_law_one_here", 6)]) (g := gName 6) (tt := tYes) rfl scKeys.nd (pi_list (pv 3))
          (blkOk_by (own := [("_law_one_here", 6)]) (N := nKeys) (sc := defScope sKeys) (by decide +kernel)) (fun _ _ _ _ _ => pg_name (i := 6) scKeys.nd rfl (.inl rfl)) (fun _ _ _ _ _ => pts_nil)
          (fun _ _ _ _ _ => pe_op op_sub (pe_op op_add (pv 6) (pe_op op_pow pe_int pe_int)) (pe_ix (show IxR _ (rIxL K) from ix_list) (pv 3) (pe_un un_neg pe_int) (fun _ _ => rfl)))))) pss_nil)
      (pss_one (ps_ret (pv 3))))), ?_⟩
    refine ⟨_, rfl, d, c, 3, rfl, S, by decide, by decide, fun r H1 hr0 hr1 S1 x1 => ?_⟩
    refine ⟨Nat.zero_le _, fun g hg => ⟨by show 3 ≤ sizeLine; decide, fun t ht => ⟨t, _, rfl, SqT.of upd_same, rfl, _, _, rfl, _, _, rfl, _, _, rfl, rfl, ?_⟩⟩⟩
    have hg1 : upd H1 g (.lst []) g = some (.lst ([].map V.int)) := upd_same
    have hgt : g ≠ t := ne_of_none hg1 ht
    have hg0 : H g = none := by
      cases e : H g with
      | none => rfl
      | some o =>
        rcases Decidable.em (g = d) with z | z
        · exact absurd hg (z ▸ S1.hasD)
        · rcases Decidable.em (g = c) with z2 | z2
          · exact absurd hg (z2 ▸ S1.hasC)
          · rw [x1 g o z z2 e] at hg; cases hg
    have hgd : g ≠ d := fun z => S.hasD (z ▸ hg0)
    have hgc : g ≠ c := fun z => S.hasC (z ▸ hg0)
    have s2 : Same H1 (upd (upd H1 g (.lst [])) t (.tup [.int r, .ref g, .int 0])) := (same_new hg).trans (same_new ht)
    have hg2 : upd (upd H1 g (.lst [])) t (.tup [.int r, .ref g, .int 0]) g = some (.lst (([] : List Int).map V.int)) := by rw [upd_ne hgt]; exact upd_same
    have S2 := S1.same s2
    have x2 : SameX H (upd (upd H1 g (.lst [])) t (.tup [.int r, .ref g, .int 0])) d c := x1.trans (.of d c s2)
    generalize upd (upd H1 g (.lst [])) t (.tup [.int r, .ref g, .int 0]) = H2 at s2 hg2 S2 x2 ⊢
    refine ⟨_, rfl, (n : Int), rfl, by omega, by omega, for_range (lo := 0) (n := n) (fun i σ H3 => ∃ (ks : List Int) (z : Int) (v : Option V), σ = [some (.ref d), some (.int (n : Int)), some (.int r), some (.ref g), some (.int z), v, none] ∧ ks.length = i ∧ ks.Pairwise (· < ·) ∧ (∀ y ∈ ks, 0 ≤ y ∧ y < z) ∧ 0 ≤ z ∧ z ≤ (i : Int) * 1000000000 ∧ Sup H3 d c ∧ SameX H H3 d c ∧ H3 g = some (.lst (ks.map V.int)))
      ⟨[], 0, none, rfl, rfl, List.Pairwise.nil, (fun _ h => nomatch h), by omega, by omega, S2, x2, hg2⟩ ?_ ?_⟩
    · rintro i σ H3 hi ⟨ks, z, v, rfl, hlen, hpw, hbd, hz0, hz1, S3, x3, hg3⟩
      refine ⟨_, rfl, .inl ⟨rfl, _, SqL.of hg3⟩, _, rfl, g, _, _, rfl, rfl, hg3, by rw [List.length_map]; exact small1000 (by omega), ?_⟩
      have e1 : ks.map V.int ++ [V.int z] = (ks ++ [z]).map V.int := by rw [List.map_append]; rfl
      rw [e1]
      have S4 : Sup (upd H3 g (.lst ((ks ++ [z]).map V.int))) d c := S3.upd hgd hgc
      have x4 : SameX H (upd H3 g (.lst ((ks ++ [z]).map V.int))) d c := fun b o n1 n2 e => by rw [upd_ne (ne_of_none e hg0)]; exact x3 b o n1 n2 e
      have hg4 : upd H3 g (.lst ((ks ++ [z]).map V.int)) g = some (.lst ((ks ++ [z]).map V.int)) := upd_same
      generalize upd H3 g (.lst ((ks ++ [z]).map V.int)) = H4 at S4 x4 hg4 ⊢
      refine ⟨_, rfl, _, _, rfl, rfl, _, rfl, d, c, 9, rfl, S4, by decide, by decide, fun r1 H5 h50 h51 S5 x5 => ?_⟩
      refine ⟨_, rfl, _, _, rfl, rfl, ⟨by decide, by decide, by decide⟩, d, c, 1000000000, rfl, S5, by decide, by decide, fun r2 H6 h60 h61 S6 x6 => ?_⟩
      refine ⟨by show 3 ≤ sizeLine; decide, fun l hl => ⟨_, rfl, ?_⟩⟩
      obtain ⟨j, rfl, hj⟩ : ∃ j : Nat, r = (j : Int) ∧ j < 3 := ⟨r.toNat, by omega, by omega⟩
      obtain ⟨y, hy, hy0, hy1⟩ : ∃ y : Int, ([V.int 0, V.int r1, V.int r2] : List V)[j]? = some (V.int y) ∧ 0 ≤ y ∧ y < 1000000000 := by
        match j, hj with
        | 0, _ => exact ⟨0, rfl, by omega, by omega⟩
        | 1, _ => exact ⟨r1, rfl, h50, by omega⟩
        | 2, _ => exact ⟨r2, rfl, h60, h61⟩
      refine ⟨l, _, _, _, rfl, rfl, SqL.of upd_same, atI_nat hy, _, _, rfl, rfl, ?_⟩
      have hgl : g ≠ l := ne_of_none (x6 _ _ hgd hgc (x5 _ _ hgd hgc hg4)) hl
      have x7 := ((x4.trans x5).trans x6).trans (.of d c (same_new (o := .lst [V.int 0, V.int r1, V.int r2]) hl))
      refine ⟨ks ++ [z], z + 1 + y, _, rfl, by simp [hlen], ?_, ?_, by omega, ?_, S6.same (same_new hl), x7, ?_⟩
      · rw [List.pairwise_append]
        exact ⟨hpw, List.pairwise_singleton _ _, fun a ha b hb => by
          rw [List.mem_singleton] at hb; subst hb
          exact (hbd a ha).2⟩
      · intro a ha
        rcases List.mem_append.mp ha with q | q
        · have := hbd a q; omega
        · rw [List.mem_singleton] at q; subst q; omega
      · show z + 1 + y ≤ ((i + 1 : Nat) : Int) * 1000000000
        omega
      · rw [upd_ne hgl]
        exact x6 _ _ hgd hgc (x5 _ _ hgd hgc hg4)
    · rintro σ H3 ⟨ks, z, v, rfl, hlen, hpw, hbd, hz0, hz1, S3, x3, hg3⟩
      have hzb : z ≤ 30000000000 := by omega
      refine ⟨_, rfl, rfl, _, rfl, ?_⟩
      refine ite2 (fun _ => ?_) (fun _ => ?_)
      · refine ⟨_, rfl, g, rfl, ⟨_, SqL.of hg3⟩, fun D hD => ?_⟩
        have hD0 : H D = none := by
          cases e : H D with
          | none => rfl
          | some o =>
            rcases Decidable.em (D = d) with q | q
            · exact absurd hD (q ▸ S3.hasD)
            · rcases Decidable.em (D = c) with q2 | q2
              · exact absurd hD (q2 ▸ S3.hasC)
              · rw [x3 D o q q2 e] at hD; cases hD
        have hne : ks ≠ [] := fun q => by rw [q] at hlen; simp at hlen; omega
        obtain ⟨ini, lst, hil⟩ : ∃ ini lst, ks = ini ++ [lst] := ⟨_, _, (List.dropLast_concat_getLast hne).symm⟩
        have hlast : atI (ks.map V.int) (-1) = some (V.int lst) := by
          rw [hil, List.map_append]; exact atI_last _ _
        refine lc_list (K := K) (a := g) (xs := ks.map V.int) (fun i Hx => At H3 Hx D (((ks.map fun y => y + 1000000000000 - lst).take i).map V.int)) (At.nil hD) (fun i Hx _ aa => SqL.of (aa.1 _ _ hg3)) ?_ ?_
        · rintro i y Hx hi aa
          obtain ⟨u, hu, rfl, hil2⟩ := getI hi
          refine ⟨rfl, _, rfl, _, _, rfl, rfl, ⟨by decide, by decide, by decide⟩, _, _, rfl, rfl, _, rfl, _, rfl, g, _, _, _, rfl, rfl, SqL.of (aa.1 _ _ hg3), hlast, _, _, rfl, rfl, _, aa.2, ?_, ?_⟩
          · rw [List.length_map, List.length_take]; exact small1000 (by rw [List.length_map]; omega)
          · have hm : (ks.map fun y => y + 1000000000000 - lst)[i]? = some (u + 1000000000000 - lst) := by rw [List.getElem?_map, hu]; rfl
            rw [take_step hm, List.map_append]
            exact aa.push hD _
        · intro Hx aa
          rw [List.length_map] at aa
          rw [show (ks.map fun y => y + 1000000000000 - lst).take ks.length = ks.map fun y => y + 1000000000000 - lst by rw [List.take_of_length_le (by rw [List.length_map]; omega)]] at aa
          refine ⟨_, rfl, k D Hx _ (by rw [List.length_map]; exact hlen) ⟨?_, ?_⟩ (S3.same aa.1) (x3.trans (.of d c aa.1)) hD0 aa.2⟩
          · exact List.pairwise_map.mpr (hpw.imp fun {a b} h => by omega)
          · intro y hy
            obtain ⟨u, hu, rfl⟩ := List.mem_map.mp hy
            have h1 := hbd u hu
            have h2 := hbd lst (by rw [hil]; simp)
            have h3 : u ≤ lst := by
              rw [hil] at hpw hu
              rcases List.mem_append.mp hu with q | q
              · exact Int.le_of_lt ((List.pairwise_append.mp hpw).2.2 u q lst (by simp))
              · rw [List.mem_singleton] at q; omega
            omega
      · refine ⟨_, rfl, k g H3 ks hlen ⟨hpw, fun y hy => ?_⟩ S3 x3 hg0 hg3⟩
        have := hbd y hy
        omega
end
end LW

namespace LW
open PySem L2 KX
abbrev sRow : Stmt := top 19
section
variable {P : Program} {w : World} {K : PySem.W.Frag} {mg : Str → Option Value} {base : Heap}
theorem scRow : FnScope ["_law_supply_here", "_law_most", "_law_held", "_law_way", "_law_at"] ["_law_supply_here", "_law_most"] (defScope sRow) := ⟨rfl, rfl, rfl, by decide +kernel, rfl, by decide +kernel, by decide +kernel⟩
theorem ok_row {f fT fK fS : Addr} {fd fdT fdK fdS : FuncData} (F : Fun K "_law_row" "_law_row" sRow f fd)
    (GT : FnOk P w K mg base CX0 1 fT fdT ["_law_supply_here", "_law_many"] spTake) (mT : mg "_law_take" = some (.ref fT)) (kT : PySem.W.keepIn K (.ref fT) = true) (bT : Binds K fdT ["_law_supply_here", "_law_many"] [])
    (GK : FnOk P w K mg base CX0 2 fK fdK ["_law_supply_here", "_law_n"] spKeys) (mK : mg "_law_keys" = some (.ref fK)) (kK : PySem.W.keepIn K (.ref fK) = true) (bK : Binds K fdK ["_law_supply_here", "_law_n"] [])
    (GS : FnOk P w K mg base CX0 2 fS fdS ["_law_supply_here", "_law_items"] (spStir K)) (mS : mg "_law_stirred" = some (.ref fS)) (kS : PySem.W.keepIn K (.ref fS) = true) (bS : Binds K fdS ["_law_supply_here", "_law_items"] [])
    (mlen : mg "len" = none) (mtup : mg "tuple" = none) : FnOk P w K mg base CX0 3 f fd ["_law_supply_here", "_law_most"] spRow := by
  refine F.ok scRow (fun vs H Q E h => ?_) (fun cdv A outer s H vs Q E hr h => ?_)
  · obtain ⟨d, c, n, rfl, _⟩ := h
    rfl
  · obtain ⟨d, c, n, rfl, S, hn1, hn2, k⟩ := h
    have hr1 : Room 1 _ := hr.mono (by decide)
    refine ⟨_, pss_cons (ps_set (i := 2) scRow.nd rfl (.inl rfl) (pe_call GK hr (by rfl) mK kK bK .nil pass0 (pa_cons (pv 0) (pa_cons (pe_op op_add pe_int (pe_call GT hr1 (by rfl) mT kT bT .nil pass0 (pa_cons (pv 0) (pa_cons (pv 1) pa_nil)))) pa_nil))))
      (pss_cons (ps_par (i := 3) (j := 4) rfl scRow.nd rfl rfl (by decide) rfl rfl (pa_cons (pe_call GT hr1 (by rfl) mT kT bT .nil pass0 (pa_cons (pv 0) (pa_cons pe_int pa_nil)))
          (pa_cons (pe_call GT hr1 (by rfl) mT kT bT .nil pass0 (pa_cons (pv 0) (pa_cons (pe_callB call_len_seq (by rfl) mlen PySem.boot_len (pa_cons (pv 2) pa_nil)) pa_nil))) pa_nil)) (by rfl))
      (pss_cons (ps_if (pt_cmpR op_eq (pv 3) pe_int (nomark _)) (pss_one (ps_ret (pe_callTy call_tuple_of (by rfl) mtup (by decide +kernel) (pa_cons (pe_revL (pv 2)) pa_nil)))) pss_nil)
      (pss_cons (ps_if (pt_cmpR op_eq (pv 3) pe_int (nomark _)) (pss_one (ps_ret (pe_callTy call_tuple_of (by rfl) mtup (by decide +kernel) (pa_cons (pe_op op_cat (pe_slice sl_list (pv 2) (po_some (pv 4)) po_none) (pe_slice sl_list (pv 2) po_none (po_some (pv 4)))) pa_nil)))) pss_nil)
      (pss_cons (ps_if (pt_cmpR op_eq (pv 3) pe_int (nomark _)) (pss_one (ps_ret (pe_callTy call_tuple_of (by rfl) mtup (by decide +kernel) (pa_cons (pe_op op_cat (pe_op op_cat (pe_slice sl_list (pv 2) po_none (po_some (pv 4)))
          (pe_revL (pe_slice sl_list (pv 2) (po_some (pv 4)) (po_some (pe_op op_add (pv 4) pe_int))))) (pe_slice sl_list (pv 2) (po_some (pe_op op_add (pv 4) pe_int)) po_none)) pa_nil)))) pss_nil)
      (pss_cons (ps_if (pt_cmpR op_eq (pv 3) pe_int (nomark _)) (pss_one (ps_ret (pe_callTy call_tuple_of (by rfl) mtup (by decide +kernel) (pa_cons (pe_op op_cat (pe_step (pv 2) (po_some pe_int) po_none (po_some pe_int)) (pe_step (pv 2) (po_some pe_int) po_none (po_some pe_int))) pa_nil)))) pss_nil)
      (pss_one (ps_ret (pe_callTy call_tuple_of (by rfl) mtup (by decide +kernel) (pa_cons (pe_call GS hr (by rfl) mS kS bS .nil pass0 (pa_cons (pv 0) (pa_cons (pv 2) pa_nil))) pa_nil))))))))), ?_⟩
    refine ⟨_, rfl, _, rfl, _, rfl, d, c, n, rfl, S, by omega, by omega, fun r1 H1 r10 r11 S1 x1 => ?_⟩
    obtain ⟨m, rfl, hm⟩ : ∃ m : Nat, r1 = (m : Int) ∧ m < n := ⟨r1.toNat, by omega, by omega⟩
    refine ⟨_, _, rfl, rfl, d, c, 1 + m, by rw [Int.natCast_add]; rfl, S1, by omega, by omega, fun g H2 ks hlen hks S2 x2 hg1 hg2 => ?_⟩
    have hg0 : H g = none := frX S1 x1 hg1
    have hgd : g ≠ d := fun z => S.hasD (z ▸ hg0)
    have hgc : g ≠ c := fun z => S.hasC (z ▸ hg0)
    refine ⟨_, rfl, d, c, 6, rfl, S2, by decide, by decide, fun wy H3 w0 w1 S3 x3 => ?_⟩
    have hg3 := x3 _ _ hgd hgc hg2
    refine ⟨_, rfl, _, rfl, g, _, rfl, .inl (SqL.of hg3), d, c, _, rfl, S3, by rw [List.length_map]; omega, by rw [List.length_map]; omega, fun at0 H4 a0 a1 S4 x4 => ?_⟩
    have hg4 := x4 _ _ hgd hgc hg3
    rw [List.length_map] at a1
    obtain ⟨j, rfl, hj⟩ : ∃ j : Nat, at0 = (j : Int) ∧ j < ks.length := ⟨at0.toNat, by omega, by omega⟩
    have x5 : SameX H H4 d c := ((x1.trans x2).trans x3).trans x4
    have frn : ∀ {b : Addr}, H4 b = none → H b = none := fun h => frX S4 x5 h
    refine ⟨_, _, rfl, ?_⟩
    have hll : ks.length ≤ 29 := by omega
    have fin : ∀ (Hx : Hp) (xs : List V), (∃ row : List Int, xs = row.map V.int ∧ row.Perm ks) → Same H4 Hx → ∀ l, Hx l = none → Q (.ref l) (upd Hx l (.tup xs)) := by
      rintro Hx xs ⟨row, rfl, hp⟩ sx l hl
      have hl2 := hp.length_eq
      exact k l _ row (.of hks hp) (by omega) (by omega) ((S4.same sx).same (same_new hl)) (x5.trans (.of d c (sx.trans (same_new hl)))) (frn (sx.free hl)) upd_same
    have c3 : ((j : Int) + 3) = ((j + 3 : Nat) : Int) := by omega
    refine ⟨_, rfl, rfl, _, rfl, ?_⟩
    refine ite2 (fun _ => ?_) (fun _ => ?_)
    · refine ⟨_, rfl, g, _, rfl, SqL.of hg4, fun q hq => ⟨q, _, rfl, .inl ⟨SqL.of upd_same, fin _ _ ⟨ks.reverse, ?_, List.reverse_perm ks⟩ (same_new hq)⟩⟩⟩
      rw [List.map_reverse]
    refine ⟨_, rfl, rfl, _, rfl, ?_⟩
    refine ite2 (fun _ => ?_) (fun _ => ?_)
    · refine ⟨_, rfl, _, rfl, _, rfl, g, _, rfl, SqL.of hg4, fun q hq => ?_⟩
      refine ⟨_, rfl, _, rfl, _, rfl, g, _, rfl, (same_new hq).seq (SqL.of hg4), fun q2 hq2 => ?_⟩
      refine ⟨q, q2, _, _, rfl, rfl, (same_new hq2) _ _ upd_same, upd_same, ?_, fun p hp => ⟨p, _, rfl, .inl ⟨SqL.of upd_same, fin _ _ ⟨ks.drop j ++ ks.take j, ?_, ?_⟩ (((same_new hq).trans (same_new hq2)).trans (same_new hp))⟩⟩⟩
      · rw [cut_from, cut_to, List.length_map, List.length_map, List.length_drop, List.length_take]; exact Nat.le_trans (show _ ≤ 29 by omega) (by decide)
      · rw [cut_from, cut_to, ← List.map_append]
      · exact List.perm_append_comm.trans (List.Perm.of_eq (List.take_append_drop j ks))
    refine ⟨_, rfl, rfl, _, rfl, ?_⟩
    refine ite2 (fun _ => ?_) (fun _ => ?_)
    · refine ⟨_, rfl, _, rfl, _, rfl, g, _, rfl, SqL.of hg4, fun q hq => ?_⟩
      refine ⟨_, rfl, _, rfl, _, rfl, _, rfl, _, _, rfl, rfl, _, rfl, g, _, rfl, (same_new hq).seq (SqL.of hg4), fun q2 hq2 => ⟨q2, _, rfl, SqL.of upd_same, fun q3 hq3 => ?_⟩⟩
      refine ⟨q, q3, _, _, rfl, rfl, (same_new hq3) _ _ ((same_new hq2) _ _ upd_same), upd_same, ?_, fun q4 hq4 => ?_⟩
      · rw [c3, cut_to, cut_nat, List.length_reverse, List.length_map, List.length_map, List.length_drop, List.length_take, List.length_take]; exact Nat.le_trans (show _ ≤ 58 by omega) (by decide)
      have s4 := fun o => ((same_new hq).trans (same_new hq2)).trans ((same_new hq3).trans (same_new (o := o) hq4))
      refine ⟨_, rfl, _, rfl, _, _, rfl, rfl, _, rfl, g, _, rfl, (s4 _).seq (SqL.of hg4), fun q5 hq5 => ?_⟩
      refine ⟨q4, q5, _, _, rfl, rfl, (same_new hq5) _ _ upd_same, upd_same, ?_, fun p hp => ⟨p, _, rfl, .inl ⟨SqL.of upd_same, fin _ _ ⟨(ks.take j ++ ((ks.take (j + 3)).drop j).reverse) ++ ks.drop (j + 3), ?_, ?_⟩ ((s4 _).trans ((same_new hq5).trans (same_new hp)))⟩⟩⟩
      · rw [c3, cut_to, cut_nat, cut_from, List.length_append, List.length_reverse, List.length_map, List.length_map, List.length_map, List.length_drop, List.length_drop, List.length_take, List.length_take]; exact Nat.le_trans (show _ ≤ 87 by omega) (by decide)
      · rw [c3, cut_to, cut_nat, cut_from, ← List.map_reverse, ← List.map_append, ← List.map_append]
      · exact mid_perm ks j
    refine ⟨_, rfl, rfl, _, rfl, ?_⟩
    refine ite2 (fun _ => ?_) (fun _ => ?_)
    · refine ⟨_, rfl, 1, rfl, 2, rfl, (fun z => by cases z), g, _, rfl, SqL.of hg4, fun q hq => ?_⟩
      refine ⟨_, rfl, 0, rfl, 2, rfl, (fun z => by cases z), g, _, rfl, (same_new hq).seq (SqL.of hg4), fun q2 hq2 => ?_⟩
      obtain ⟨row, er, hp0⟩ := odd_even ks (by omega)
      refine ⟨q, q2, _, _, rfl, rfl, (same_new hq2) _ _ upd_same, upd_same, ?_, fun p hp => ⟨p, _, rfl, .inl ⟨SqL.of upd_same, fin _ _ ⟨row, er, hp0⟩ (((same_new hq).trans (same_new hq2)).trans (same_new hp))⟩⟩⟩
      rw [← List.length_append, er, List.length_map, hp0.length_eq]; exact Nat.le_trans (show _ ≤ 29 by omega) (by decide)
    refine ⟨_, rfl, _, rfl, d, c, g, ks, rfl, S4, SqL.of hg4, by omega, fun p H6 ks' hp S6 x6 hp1 hp2 => ⟨p, _, rfl, .inl ⟨SqL.of hp2, fun l hl => ?_⟩⟩⟩
    have hl2 := hp.length_eq
    have x7 := x5.trans (x6.trans (.of d c (same_new (o := .tup (ks'.map V.int)) hl)))
    exact k l _ ks' (.of hks hp) (by omega) (by omega) (S6.same (same_new hl)) x7 (frn (frX S6 x6 hl)) upd_same
end
end LW

namespace LW
open PySem L2 KX
abbrev sInRow : Stmt := top 10
abbrev sOne : Stmt := top 16
abbrev sOdd : Stmt := top 20
abbrev sLIsKey : Stmt := top 21
section
variable {P : Program} {w : World} {K : PySem.W.Frag} {mg : Str → Option Value} {base : Heap}
theorem scOne : FnScope ["_law_supply_here", "_law_items"] ["_law_supply_here", "_law_items"] (defScope sOne) := ⟨rfl, rfl, rfl, by decide +kernel, rfl, by decide +kernel, by decide +kernel⟩
theorem ok_one {f fT : Addr} {fd fdT : FuncData} (F : Fun K "_law_one" "_law_one" sOne f fd) (GT : FnOk P w K mg base CX0 1 fT fdT ["_law_supply_here", "_law_many"] spTake) (mT : mg "_law_take" = some (.ref fT)) (kT : PySem.W.keepIn K (.ref fT) = true) (bT : Binds K fdT ["_law_supply_here", "_law_many"] [])
    (mlen : mg "len" = none) : FnOk P w K mg base CX0 2 f fd ["_law_supply_here", "_law_items"] (spOne K) := by
  refine F.ok scOne (fun vs H Q E h => ?_) (fun cdv A outer s H vs Q E hr h => ?_)
  · obtain ⟨d, c, a, xs, rfl, _⟩ := h
    rfl
  · obtain ⟨d, c, a, xs, rfl, S, hS, hne, hl, k⟩ := h
    refine ⟨_, pss_one (ps_ret (pe_ix ix_list (pv 1) (pe_call GT hr (by rfl) mT kT bT .nil pass0 (pa_cons (pv 0) (pa_cons (pe_callB call_len_seq (by rfl) mlen PySem.boot_len (pa_cons (pv 1) pa_nil)) pa_nil))) (fun _ _ => rfl))), ?_⟩
    have hpos : 0 < xs.length := List.length_pos_iff.mpr hne
    refine ⟨_, rfl, _, rfl, _, rfl, a, _, rfl, .inl (hide_same.seq hS), d, c, _, rfl, S, by omega, by omega, fun r H1 r0 r1 S1 x1 => ?_⟩
    obtain ⟨j, rfl, hj⟩ : ∃ j : Nat, r = (j : Int) ∧ j < xs.length := ⟨r.toNat, by omega, by omega⟩
    refine ⟨a, _, _, _, rfl, rfl, hide_same.seq ((hide_mono x1).seq hS), atI_nat (List.getElem?_eq_getElem hj), k _ _ (List.getElem_mem hj) S1 x1⟩
abbrev sPlain : Stmt := top 7
def plainD : PyData → Bool
  | .int _ => true
  | _ => false
def spPlain (K : PySem.W.Frag) : Sp := fun vs H Q _ => ∃ (v : V) (dd : PyData), vs = [v] ∧ Dq K H v dd ∧ Q (.bl (plainD dd)) H
theorem scPlain : FnScope ["value"] ["value"] (defScope sPlain) := ⟨rfl, rfl, rfl, by decide +kernel, rfl, by decide +kernel, by decide +kernel⟩
theorem ok_plain {f : Addr} {fd : FuncData} (F : Fun K "is_plain_integer" "is_plain_integer" sPlain f fd) (misi : mg "isinstance" = none) (mint : mg "int" = none) (mbool : mg "bool" = none) : FnOk P w K mg base CX0 1 f fd ["value"] (spPlain K) := by
  refine F.ok scPlain (fun vs H Q E h => ?_) (fun cdv A outer s H vs Q E hr h => ?_)
  · obtain ⟨v, dd, rfl, _⟩ := h
    rfl
  · obtain ⟨v, dd, rfl, hd, k⟩ := h
    refine ⟨_, pss_one (ps_ret (pe_and (pe_callB call_isi (by rfl) misi (by decide +kernel) (pa_cons (pv 0) (pa_cons (pe_bltn (v := .ty "int") (by rfl) mint (by decide +kernel) rfl) pa_nil)))
      (pe_one (pe_not (pe_callB call_isi (by rfl) misi (by decide +kernel) (pa_cons (pv 0) (pa_cons (pe_bltn (v := .ty "bool") (by rfl) mbool (by decide +kernel) rfl) pa_nil))))))), ?_⟩
    refine ⟨_, rfl, v, _, _, _, _, rfl, .ty "int", hd.ty, kit_int dd, _, rfl, ?_⟩
    cases hd with
    | int i =>
      refine iteT ?_
      exact ⟨_, rfl, _, _, _, _, _, rfl, .ty "bool", .base (.int i), kit_bool (.int i), _, rfl, k⟩
    | bl b =>
      refine iteT ?_
      exact ⟨_, rfl, _, _, _, _, _, rfl, .ty "bool", .base (.bl b), kit_bool (.bool b), _, rfl, k⟩
    | _ => exact iteF k
theorem scLIsKey : FnScope ["_law_value"] ["_law_value"] (defScope sLIsKey) := ⟨rfl, rfl, rfl, by decide +kernel, rfl, by decide +kernel, by decide +kernel⟩
theorem ok_liskey {f : Addr} {fd : FuncData} (F : Fun K "_law_is_key" "_law_is_key" sLIsKey f fd) (misi : mg "isinstance" = none) (mint : mg "int" = none) (mbool : mg "bool" = none) : FnOk P w K mg base CX0 1 f fd ["_law_value"] (spIsKey K) := by
  refine F.ok scLIsKey (fun vs H Q E h => ?_) (fun cdv A outer s H vs Q E hr h => ?_)
  · obtain ⟨v, dd, rfl, _⟩ := h
    rfl
  · obtain ⟨v, dd, rfl, hd, k⟩ := h
    refine ⟨_, pss_one (ps_ret (pe_and (pe_callB call_isi (by rfl) misi (by decide +kernel) (pa_cons (pv 0) (pa_cons (pe_bltn (v := .ty "int") (by rfl) mint (by decide +kernel) rfl) pa_nil)))
      (pe_and (pe_not (pe_callB call_isi (by rfl) misi (by decide +kernel) (pa_cons (pv 0) (pa_cons (pe_bltn (v := .ty "bool") (by rfl) mbool (by decide +kernel) rfl) pa_nil)))) (pe_one (pe_chain op_le op_le pe_int (pv 0) (pe_op op_pow pe_int pe_int)))))), ?_⟩
    refine ⟨_, rfl, v, _, _, _, _, rfl, .ty "int", hd.ty, kit_int dd, _, rfl, ?_⟩
    cases hd with
    | int i =>
      refine iteT ?_
      refine ⟨_, rfl, _, _, _, _, _, rfl, .ty "bool", .base (.int i), kit_bool (.int i), _, rfl, _, rfl, ?_⟩
      refine iteT ?_
      refine ⟨_, rfl, _, _, rfl, rfl, _, rfl, ?_⟩
      have k' : Q (.bl (decide (0 ≤ i) && decide (i ≤ 1000000000000))) H := k
      cases e : decide (0 ≤ i) with
      | true =>
        rw [e] at k'
        exact iteT ⟨_, _, rfl, rfl, ⟨by decide, by decide, by decide⟩, _, _, rfl, rfl, k'⟩
      | false =>
        rw [e] at k'
        exact iteF k'
    | bl b =>
      refine iteT ?_
      refine ⟨_, rfl, _, _, _, _, _, rfl, .ty "bool", .base (.bl b), kit_bool (.bool b), _, rfl, _, rfl, ?_⟩
      exact iteF k
    | _ => exact iteF k
end
end LW

namespace LW
open PySem L2 KX
section
variable {P : Program} {w : World} {K : PySem.W.Frag} {mg : Str → Option Value} {base : Heap}
theorem scOdd : FnScope ["_law_supply_here", "_law_items"] ["_law_supply_here"] (defScope sOdd) := ⟨rfl, rfl, rfl, by decide +kernel, rfl, by decide +kernel, by decide +kernel⟩
theorem ok_odd {f fO : Addr} {fd fdO : FuncData} (F : Fun K "_law_odd" "_law_odd" sOdd f fd) (GO : FnOk P w K mg base CX0 2 fO fdO ["_law_supply_here", "_law_items"] (spOne K)) (mO : mg "_law_one" = some (.ref fO)) (kO : PySem.W.keepIn K (.ref fO) = true) (bO : Binds K fdO ["_law_supply_here", "_law_items"] []) :
    FnOk P w K mg base CX0 3 f fd ["_law_supply_here"] (spOdd K) := by
  refine F.ok scOdd (fun vs H Q E h => ?_) (fun cdv A outer s H vs Q E hr h => ?_)
  · obtain ⟨d, c, rfl, _⟩ := h
    rfl
  · obtain ⟨d, c, rfl, S, k⟩ := h
    have hu := hu_of hr
    have xr : SameX H H d c := SameX.refl H d c
    refine ⟨_, pss_cons (ps_set (i := 1) scOdd.nd rfl (.inl rfl) (pe_lst (pa_cons pe_non (pa_cons pe_bl (pa_cons pe_bl (pa_cons (pe_un un_neg pe_int) (pa_cons pe_int (pa_cons pe_int (pa_cons pe_int (pa_cons (pe_op op_pow pe_int pe_int) (pa_cons (pe_op op_add (pe_op op_pow pe_int pe_int) pe_int) (pa_cons (pe_op op_pow pe_int pe_int) (pa_cons pe_str (pa_cons pe_str (pa_cons pe_str pa_nil)))))))))))))))
      (pss_cons (ps_set (i := 1) scOdd.nd rfl (.inl rfl) (pe_op op_cat (pv 1) (pe_lst (pa_cons pe_str (pa_cons pe_str (pa_cons (pe_tup pa_nil) (pa_cons (pe_lst pa_nil) (pa_cons pe_dnewK (pa_cons (pe_tup (pa_cons pe_int pa_nil)) (pa_cons (pe_lst (pa_cons pe_int pa_nil)) (pa_cons (pe_tup (pa_cons pe_bl pa_nil)) (pa_cons (pe_tup (pa_cons pe_int (pa_cons pe_int pa_nil))) (pa_cons (pe_tup (pa_cons (pe_tup (pa_cons pe_int pa_nil)) pa_nil)) pa_nil)))))))))))))
      (pss_one (ps_ret (pe_call GO hr (by rfl) mO kO bO .nil pass0 (pa_cons (pv 0) (pa_cons (pe_op op_cat (pv 1) (pe_lst (pa_cons (pe_disp (pps_cons pe_str pe_int pps_nil) (by rfl) (by rfl) (fun z => by cases z) (by decide)) (pa_cons (pe_tup (pa_cons pe_non (pa_cons pe_int pa_nil))) pa_nil)))) pa_nil)))))), ?_⟩
    refine ⟨1, rfl, _, _, rfl, rfl, ⟨by decide, by decide, by decide⟩, _, _, rfl, rfl, ⟨by decide, by decide, by decide⟩, _, _, rfl, rfl, _, _, rfl, rfl, ⟨by decide, by decide, by decide⟩, by show 13 ≤ sizeLine; decide, fun q1 h1 => ?_⟩
    show L2.tSeq _ _ _ _ (upd H q1 (.lst [.non, .bl true, .bl false, .int (-1), .int 0, .int 1, .int 2, .int 1000000000000, .int 1000000000001, .int (10 ^ 39), .str "", .str "0", .str "sorted"]))
    obtain ⟨S1, x1, f1⟩ := new_step (o := .lst [.non, .bl true, .bl false, .int (-1), .int 0, .int 1, .int 2, .int 1000000000000, .int 1000000000001, .int (10 ^ 39), .str "", .str "0", .str "sorted"]) S h1
    generalize upd H q1 (.lst [.non, .bl true, .bl false, .int (-1), .int 0, .int 1, .int 2, .int 1000000000000, .int 1000000000001, .int (10 ^ 39), .str "", .str "0", .str "sorted"]) = H1 at S1 x1 f1 ⊢
    refine ⟨_, rfl, Nat.zero_le _, fun q2 h2 => ?_⟩
    obtain ⟨S2, x2, f2⟩ := new_step (o := .tup []) S1 h2
    generalize upd H1 q2 (.tup []) = H2 at S2 x2 f2 ⊢
    refine ⟨Nat.zero_le _, fun q3 h3 => ?_⟩
    obtain ⟨S3, x3, f3⟩ := new_step (o := .lst []) S2 h3
    generalize upd H2 q3 (.lst []) = H3 at S3 x3 f3 ⊢
    refine fun q4 h4 => ?_
    obtain ⟨S4, x4, f4⟩ := new_step (o := .dK []) S3 h4
    generalize upd H3 q4 (.dK []) = H4 at S4 x4 f4 ⊢
    refine ⟨(by show 1 ≤ sizeLine; decide), fun q5 h5 => ?_⟩
    obtain ⟨S5, x5, f5⟩ := new_step (o := .tup [.int 0]) S4 h5
    generalize upd H4 q5 (.tup [.int 0]) = H5 at S5 x5 f5 ⊢
    refine ⟨(by show 1 ≤ sizeLine; decide), fun q6 h6 => ?_⟩
    obtain ⟨S6, x6, f6⟩ := new_step (o := .lst [.int 1]) S5 h6
    generalize upd H5 q6 (.lst [.int 1]) = H6 at S6 x6 f6 ⊢
    refine ⟨(by show 1 ≤ sizeLine; decide), fun q7 h7 => ?_⟩
    obtain ⟨S7, x7, f7⟩ := new_step (o := .tup [.bl true]) S6 h7
    generalize upd H6 q7 (.tup [.bl true]) = H7 at S7 x7 f7 ⊢
    refine ⟨(by show 2 ≤ sizeLine; decide), fun q8 h8 => ?_⟩
    obtain ⟨S8, x8, f8⟩ := new_step (o := .tup [.int 0, .int 0]) S7 h8
    generalize upd H7 q8 (.tup [.int 0, .int 0]) = H8 at S8 x8 f8 ⊢
    refine ⟨(by show 1 ≤ sizeLine; decide), fun q9 h9 => ?_⟩
    obtain ⟨S9, x9, f9⟩ := new_step (o := .tup [.int 1]) S8 h9
    generalize upd H8 q9 (.tup [.int 1]) = H9 at S9 x9 f9 ⊢
    refine ⟨(by show 1 ≤ sizeLine; decide), fun q10 h10 => ?_⟩
    obtain ⟨S10, x10, f10⟩ := new_step (o := .tup [.ref q9]) S9 h10
    generalize upd H9 q10 (.tup [.ref q9]) = H10 at S10 x10 f10 ⊢
    refine ⟨by show 10 ≤ sizeLine; decide, fun q11 h11 => ?_⟩
    obtain ⟨S11, x11, f11⟩ := new_step (o := .lst [.str "late 1 1", .str "0: 1", .ref q2, .ref q3, .ref q4, .ref q5, .ref q6, .ref q7, .ref q8, .ref q10]) S10 h11
    generalize upd H10 q11 (.lst [.str "late 1 1", .str "0: 1", .ref q2, .ref q3, .ref q4, .ref q5, .ref q6, .ref q7, .ref q8, .ref q10]) = H11 at S11 x11 f11 ⊢
    have g1 := hide_same _ _ (hide_mono ((((((((((x2).trans x3).trans x4).trans x5).trans x6).trans x7).trans x8).trans x9).trans x10).trans x11) _ _ f1)
    have g11 := hide_same _ _ f11
    refine ⟨q1, q11, _, _, rfl, rfl, g1, g11, by show 13 + 10 ≤ sizeLine; decide, fun q12 h12 => ?_⟩
    obtain ⟨S12, x12, f12⟩ := new_step (o := .lst ([.non, .bl true, .bl false, .int (-1), .int 0, .int 1, .int 2, .int 1000000000000, .int 1000000000001, .int (10 ^ 39), .str "", .str "0", .str "sorted"] ++ [.str "late 1 1", .str "0: 1", .ref q2, .ref q3, .ref q4, .ref q5, .ref q6, .ref q7, .ref q8, .ref q10])) S11 h12
    generalize upd H11 q12 (.lst ([.non, .bl true, .bl false, .int (-1), .int 0, .int 1, .int 2, .int 1000000000000, .int 1000000000001, .int (10 ^ 39), .str "", .str "0", .str "sorted"] ++ [.str "late 1 1", .str "0: 1", .ref q2, .ref q3, .ref q4, .ref q5, .ref q6, .ref q7, .ref q8, .ref q10])) = H12 at S12 x12 f12 ⊢
    refine ⟨_, rfl, _, rfl, fun q13 h13 => ⟨upd_same, [(.inr "a", .int 0)], rfl, by decide, ?_⟩⟩
    show tCons _ _ _ (upd (upd H12 q13 (.dK [])) q13 (.dK [(.inr "a", .int 0)])) _
    rw [upd_upd]
    obtain ⟨S13, x13, f13⟩ := new_step (o := .dK [(.inr "a", .int 0)]) S12 h13
    generalize upd H12 q13 (.dK [(.inr "a", .int 0)]) = H13 at S13 x13 f13 ⊢
    refine ⟨by show 2 ≤ sizeLine; decide, fun q14 h14 => ?_⟩
    obtain ⟨S14, x14, f14⟩ := new_step (o := .tup [.non, .int 1]) S13 h14
    generalize upd H13 q14 (.tup [.non, .int 1]) = H14 at S14 x14 f14 ⊢
    refine ⟨by show 2 ≤ sizeLine; decide, fun q15 h15 => ?_⟩
    obtain ⟨S15, x15, f15⟩ := new_step (o := .lst [.ref q13, .ref q14]) S14 h15
    generalize upd H14 q15 (.lst [.ref q13, .ref q14]) = H15 at S15 x15 f15 ⊢
    have g12 := hide_same _ _ (hide_mono (((x13).trans x14).trans x15) _ _ f12)
    have g15 := hide_same _ _ f15
    refine ⟨q12, q15, _, _, rfl, rfl, g12, g15, by show 23 + 2 ≤ sizeLine; decide, fun q16 h16 => ?_⟩
    obtain ⟨S16, x16, f16⟩ := new_step (o := .lst (([.non, .bl true, .bl false, .int (-1), .int 0, .int 1, .int 2, .int 1000000000000, .int 1000000000001, .int (10 ^ 39), .str "", .str "0", .str "sorted"] ++ [.str "late 1 1", .str "0: 1", .ref q2, .ref q3, .ref q4, .ref q5, .ref q6, .ref q7, .ref q8, .ref q10]) ++ [.ref q13, .ref q14])) S15 h16
    generalize upd H15 q16 (.lst (([.non, .bl true, .bl false, .int (-1), .int 0, .int 1, .int 2, .int 1000000000000, .int 1000000000001, .int (10 ^ 39), .str "", .str "0", .str "sorted"] ++ [.str "late 1 1", .str "0: 1", .ref q2, .ref q3, .ref q4, .ref q5, .ref q6, .ref q7, .ref q8, .ref q10]) ++ [.ref q13, .ref q14])) = H16 at S16 x16 f16 ⊢
    have xa : SameX H H16 d c := (((((((((((((((x1).trans x2).trans x3).trans x4).trans x5).trans x6).trans x7).trans x8).trans x9).trans x10).trans x11).trans x12).trans x13).trans x14).trans x15).trans x16
    have hall : DqAll K (hideX H16 d c) (([.non, .bl true, .bl false, .int (-1), .int 0, .int 1, .int 2, .int 1000000000000, .int 1000000000001, .int (10 ^ 39), .str "", .str "0", .str "sorted"] ++ [.str "late 1 1", .str "0: 1", .ref q2, .ref q3, .ref q4, .ref q5, .ref q6, .ref q7, .ref q8, .ref q10]) ++ [.ref q13, .ref q14]) oddMenu := by
      exact .cons .non (.cons (.bl true) (.cons (.bl false) (.cons (.int (-1)) (.cons (.int 0) (.cons (.int 1) (.cons (.int 2) (.cons (.int 1000000000000) (.cons (.int 1000000000001) (.cons (.int (10 ^ 39)) (.cons (.str _) (.cons (.str _) (.cons (.str _) (.cons (.str _) (.cons (.str _) (.cons (.tup (SqT.of (hide_mono ((((((((((((((x3).trans x4).trans x5).trans x6).trans x7).trans x8).trans x9).trans x10).trans x11).trans x12).trans x13).trans x14).trans x15).trans x16) _ _ f2)) .nil) (.cons (.lst (SqL.of (hide_mono (((((((((((((x4).trans x5).trans x6).trans x7).trans x8).trans x9).trans x10).trans x11).trans x12).trans x13).trans x14).trans x15).trans x16) _ _ f3)) .nil) (.cons (.dct (kvs := []) (hide_mono ((((((((((((x5).trans x6).trans x7).trans x8).trans x9).trans x10).trans x11).trans x12).trans x13).trans x14).trans x15).trans x16) _ _ f4)) (.cons (.tup (SqT.of (hide_mono (((((((((((x6).trans x7).trans x8).trans x9).trans x10).trans x11).trans x12).trans x13).trans x14).trans x15).trans x16) _ _ f5)) (.cons (.int 0) .nil)) (.cons (.lst (SqL.of (hide_mono ((((((((((x7).trans x8).trans x9).trans x10).trans x11).trans x12).trans x13).trans x14).trans x15).trans x16) _ _ f6)) (.cons (.int 1) .nil)) (.cons (.tup (SqT.of (hide_mono (((((((((x8).trans x9).trans x10).trans x11).trans x12).trans x13).trans x14).trans x15).trans x16) _ _ f7)) (.cons (.bl true) .nil)) (.cons (.tup (SqT.of (hide_mono ((((((((x9).trans x10).trans x11).trans x12).trans x13).trans x14).trans x15).trans x16) _ _ f8)) (.cons (.int 0) (.cons (.int 0) .nil))) (.cons (.tup (SqT.of (hide_mono ((((((x11).trans x12).trans x13).trans x14).trans x15).trans x16) _ _ f10)) (.cons (.tup (SqT.of (hide_mono (((((((x10).trans x11).trans x12).trans x13).trans x14).trans x15).trans x16) _ _ f9)) (.cons (.int 1) .nil)) .nil)) (.cons (.dct (kvs := [("a", 0)]) (hide_mono (((x14).trans x15).trans x16) _ _ f13)) (.cons (.tup (SqT.of (hide_mono ((x15).trans x16) _ _ f14)) (.cons .non (.cons (.int 1) .nil))) .nil))))))))))))))))))))))))
    refine ⟨d, c, q16, _, rfl, S16, SqL.of f16, (fun z => by cases z), by show 25 ≤ 1000; decide, fun v H17 hv S17 x17 => ?_⟩
    obtain ⟨dd, hd, hq⟩ := dqAll_mem hall v hv
    exact k v dd H17 hd (Dq.same (hide_mono x17) hq) S17 (xa.trans x17)
end
end LW

namespace LW
open PySem L2 KX MX
abbrev sInit : Stmt := inClass (top 5) 0
abbrev sInv : Stmt := top 8
abbrev sThr : Stmt := top 9
abbrev sIsThr : Stmt := top 11
abbrev sLight : Stmt := top 12
section
variable {P : Program} {w : World} {K : PySem.W.Frag} {mg : Str → Option Value} {base : Heap}
theorem scInit : FnScope ["self", "value"] ["self", "value"] (defScope sInit) := ⟨rfl, rfl, rfl, by decide +kernel, rfl, by decide +kernel, by decide +kernel⟩
theorem ok_init {f C : Addr} {fd : FuncData} (F : Fun K "__init__" "NoThreshold.__init__" sInit f fd) (T : OexC K C) (hno : PySem.W.findIn K (.ref C) "value" = some none) : FnOk P w K mg base CX0 1 f fd ["self", "value"] (spInit1 C "value") := by
  refine F.ok scInit (fun vs H Q E h => ?_) (fun cdv A outer s H vs Q E hr h => ?_)
  · obtain ⟨a, v, rfl, _⟩ := h
    rfl
  · obtain ⟨a, v, rfl, ha, k⟩ := h
    refine ⟨_, pss_one (ps_ost (pv 0) (pv 1)), ?_⟩
    exact ⟨_, rfl, _, rfl, a, C, rfl, T, hno, .inl ⟨ha, fun dx h1 h2 => k dx h1 h2⟩⟩
abbrev nInv : List Str := ["row", "found", "place", "key", "later"]
theorem scInv : FnScope nInv ["row"] (defScope sInv) := ⟨rfl, rfl, rfl, by decide +kernel, rfl, by decide +kernel, by decide +kernel⟩
theorem ok_inv {f : Addr} {fd : FuncData} (F : Fun K "inversions" "inversions" sInv f fd) (menu : mg "enumerate" = none) (mtup : mg "tuple" = none) (msor : mg "sorted" = none) : FnOk P w K mg base CX0 1 f fd ["row"] (spInv K) := by
  refine F.ok scInv (fun vs H Q E h => ?_) (fun cdv A outer s H vs Q E hr h => ?_)
  · obtain ⟨a, row, rfl, _⟩ := h
    rfl
  · obtain ⟨a, row, rfl, hS, hl, k⟩ := h
    refine ⟨_, pss_cons (ps_set (i := 1) scInv.nd rfl (.inl rfl) (pe_lst pa_nil))
      (pss_cons (ps_for PassesOwn.never rfl (pi_enumT (by rfl) menu (pa_cons (pv 0) pa_nil)) (pg_tup rfl (pgs_cons (pg_name (i := 2) scInv.nd rfl (.inl rfl)) (pgs_cons (pg_name (i := 3) scInv.nd rfl (.inl rfl)) pgs_nil)))
        (pss_one (ps_for PassesOwn.never rfl (pi_tup (pe_slice sl_tup (pv 0) (po_some (pe_op op_add (pv 2) pe_int)) po_none)) (pg_name (i := 4) scInv.nd rfl (.inl rfl))
          (pss_one (ps_if (pt_cmpR op_lt (pv 4) (pv 3) (nomark _)) (pss_one (ps_expr (pe_bm PySem.F.plainAttrs_list PySem.F.slot_list_append PySem.F.type_list_append mt_append (pv 1) (pa_cons (pe_tup (pa_cons (pv 4) (pa_cons (pv 3) pa_nil))) pa_nil)))) pss_nil)))))
      (pss_one (ps_ret (pe_callTy call_tuple_of (by rfl) mtup (by decide +kernel) (pa_cons (pe_callB cr_sortedPO (by rfl) msor (by decide +kernel) (pa_cons (pv 1) pa_nil)) pa_nil))))), ?_⟩
    refine ⟨Nat.zero_le _, fun g hg => ?_⟩
    have s1 : Same H (upd H g (.lst [])) := same_new hg
    have hg1 : upd H g (.lst []) g = some (.lst []) := upd_same
    generalize upd H g (.lst []) = H1 at s1 hg1 ⊢
    have hmx : row.length * row.length ≤ 841 := Nat.mul_le_mul hl hl
    refine ⟨_, rfl, a, _, rfl, sameT s1 hS, for_enumT (K := K) (a := a) (xs := row.map V.int) (fun i σ Hx => ∃ (v2 v3 v4 : Option V) (fs : List V) (ps : List (Int × Int)), σ = [some (.ref a), some (.ref g), v2, v3, v4] ∧ Same H Hx ∧ Hx g = some (.lst fs) ∧ PairsAt Hx fs ps ∧ ps ++ invP (row.drop i) = invP row)
      ⟨none, none, none, [], [], rfl, s1, hg1, .nil, rfl⟩ (fun i σ Hx _ ⟨_, _, _, _, _, _, sx, _⟩ => sameT sx hS) ?_ ?_⟩
    · rintro i y σ Hx T hi ⟨v2, v3, v4, fs, ps, rfl, sx, hgx, hps, hinv⟩ hT
      obtain ⟨z, hz, rfl, hil⟩ := getI hi
      refine ⟨T, _, rfl, SqT.of upd_same, rfl, _, _, rfl, _, _, rfl, rfl, ?_⟩
      have sT : Same Hx (upd Hx T (.tup [.int (i : Nat), .int z])) := same_new hT
      generalize upd Hx T (.tup [.int (i : Nat), .int z]) = H2 at sT ⊢
      have sx2 := sx.trans sT
      have hdrop : row.drop i = z :: row.drop (i + 1) := by
        obtain ⟨h1, h2⟩ := List.getElem?_eq_some_iff.mp hz
        rw [List.drop_eq_getElem_cons h1, h2]
      refine ⟨_, rfl, _, rfl, _, _, rfl, rfl, _, rfl, a, _, rfl, sameT sx2 hS, ?_, fun q hq => ⟨q, rfl, ⟨_, SqT.of upd_same⟩, ?_⟩⟩
      · rw [show ((i : Nat) : Int) + 1 = ((i + 1 : Nat) : Int) by omega, HT.sIx_nat, List.length_map]
        omega
      rw [show ((i : Nat) : Int) + 1 = ((i + 1 : Nat) : Int) by omega, cut_from]
      have sq : Same H2 (upd H2 q (.tup ((row.drop (i + 1)).map V.int))) := same_new hq
      have hqq : upd H2 q (.tup ((row.drop (i + 1)).map V.int)) q = some (.tup ((row.drop (i + 1)).map V.int)) := upd_same
      generalize upd H2 q (.tup ((row.drop (i + 1)).map V.int)) = H3 at sq hqq ⊢
      have sx3 := sx2.trans sq
      refine for_tup (K := K) (a := q) (xs := (row.drop (i + 1)).map V.int) (fun j σ Hy => ∃ (v4 : Option V) (fs : List V) (ps : List (Int × Int)), σ = [some (.ref a), some (.ref g), some (.int (i : Nat)), some (.int z), v4] ∧ Same H Hy ∧ Hy q = some (.tup ((row.drop (i + 1)).map V.int)) ∧ Hy g = some (.lst fs) ∧ PairsAt Hy fs ps ∧
          ps ++ (((((row.drop (i + 1)).drop j).filter fun u => decide (u < z)).map fun u => (u, z)) ++ invP (row.drop (i + 1))) = invP row)
        ⟨v4, fs, ps, rfl, sx3, hqq, sq _ _ (sT _ _ hgx), (hps.same sT).same sq, by rw [hdrop] at hinv; exact hinv⟩ (fun j σ Hy _ ⟨_, _, _, _, _, hy, _⟩ => SqT.of hy) ?_ ?_
      · rintro j y2 σ Hy hj ⟨v4, fs, ps, rfl, sy, hqy, hgy, hpy, hin⟩
        obtain ⟨u, hu, rfl, hjl⟩ := getI hj
        have hd2 : (row.drop (i + 1)).drop j = u :: (row.drop (i + 1)).drop (j + 1) := by
          obtain ⟨h1, h2⟩ := List.getElem?_eq_some_iff.mp hu
          rw [List.drop_eq_getElem_cons h1, h2]
        rw [hd2] at hin
        refine ⟨_, rfl, _, rfl, _, _, rfl, rfl, _, rfl, ?_⟩
        by_cases h : u < z
        · rw [decide_eq_true h]
          refine iteT ?_
          rw [List.filter_cons_of_pos (by simpa using h), List.map_cons] at hin
          have hlen : ps.length + 1 ≤ 841 := by
            have := congrArg List.length hin
            have h2 := invP_len row
            simp only [List.length_append, List.length_cons] at this
            omega
          refine ⟨_, rfl, .inl ⟨rfl, _, SqL.of hgy⟩, _, rfl, _, rfl, by show 2 ≤ sizeLine; decide, fun t ht => ⟨g, _, _, rfl, rfl, (same_new ht) _ _ hgy, by rw [hpy.len]; exact small1000 (by omega), ?_⟩⟩
          have nt : t ≠ g := fun z' => by rw [z'] at ht; rw [ht] at hgy; cases hgy
          have nq : q ≠ g := ne_of hqy hgy (fun z' => by cases z')
          have st : Same Hy (upd Hy t (.tup [.int u, .int z])) := same_new ht
          have htt : upd Hy t (.tup [.int u, .int z]) t = some (.tup [.int u, .int z]) := upd_same
          generalize upd Hy t (.tup [.int u, .int z]) = Hz at st htt ⊢
          have keep : ∀ (vs : List V) (qs : List (Int × Int)), PairsAt Hz vs qs → PairsAt (upd Hz g (.lst (fs ++ [.ref t]))) vs qs := fun vs qs h => L2.Paired.mapP h fun v p ⟨t', e, q'⟩ => ⟨t', e, by
            have : t' ≠ g := ne_of q' (st _ _ hgy) (fun z' => by cases z')
            rw [upd_ne this]; exact q'⟩
          refine ⟨some (.int u), fs ++ [.ref t], ps ++ [(u, z)], rfl, fun b o e => ?_, by rw [upd_ne nq]; exact st _ _ hqy, upd_same, keep _ _ ((hpy.same st).snoc ⟨t, rfl, htt⟩), ?_⟩
          · rw [upd_ne (fun z' => by rw [z', hg] at e; cases e)]; exact st _ _ (sy _ _ e)
          · rw [List.append_assoc]; exact hin
        · rw [decide_eq_false h]
          refine iteF ?_
          rw [List.filter_cons_of_neg (by simpa using h)] at hin
          exact ⟨some (.int u), fs, ps, rfl, sy, hqy, hgy, hpy, hin⟩
      · rintro σ Hy ⟨v4, fs, ps, rfl, sy, hqy, hgy, hpy, hin⟩
        rw [List.length_map, List.drop_length] at hin
        exact ⟨_, _, _, fs, ps, rfl, sy, hgy, hpy, hin⟩
    · rintro σ Hx ⟨v2, v3, v4, fs, ps, rfl, sx, hgx, hps, hinv⟩
      rw [List.length_map, List.drop_length] at hinv
      have hps2 : ps = invP row := by rw [← hinv]; simp [invP]
      refine ⟨_, rfl, g, fs, keyOf Hx, rfl, SqL.of hgx, fun x hx => ?_, fun ys p h1 h2 hp => ?_⟩
      · obtain ⟨t, e, q⟩ := mem_at hps x hx
        exact ⟨t, e, q⟩
      · obtain ⟨a1, a2, a3⟩ := sorted_pairs hps h1 h2
        refine ⟨p, _, rfl, .inl ⟨SqL.of upd_same, fun l hl2 => ?_⟩⟩
        have sp : Same Hx (upd Hx p (.lst ys)) := same_new hp
        exact k l _ ys _ ((sx.trans sp).trans (same_new hl2)) (hps2 ▸ a2) a3 upd_same ((a1.same sp).same (same_new hl2))
end
end LW

namespace LW
open PySem L2 KX MX
section
variable {P : Program} {w : World} {K : PySem.W.Frag} {mg : Str → Option Value} {base : Heap}
theorem scThr : FnScope ["row"] ["row"] (defScope sThr) := ⟨rfl, rfl, rfl, by decide +kernel, rfl, by decide +kernel, by decide +kernel⟩
theorem ok_thr {f : Addr} {fd : FuncData} (F : Fun K "thresholds" "thresholds" sThr f fd) (mtup : mg "tuple" = none) (msor : mg "sorted" = none) : FnOk P w K mg base CX0 1 f fd ["row"] (spRowFn K thr) := by
  refine F.ok scThr (fun vs H Q E h => ?_) (fun cdv A outer s H vs Q E hr h => ?_)
  · obtain ⟨a, row, rfl, _⟩ := h
    rfl
  · obtain ⟨a, row, rfl, hS, hR, hl, k⟩ := h
    refine ⟨_, pss_one (ps_ret (pe_callTy call_tuple_of (by rfl) mtup (by decide +kernel) (pa_cons (pe_slice sl_list (pe_callB cr_srt (by rfl) msor (by decide +kernel) (pa_cons (pv 0) pa_nil)) po_none (po_some (pe_un un_neg pe_int))) pa_nil))), ?_⟩
    refine ⟨_, rfl, a, row, rfl, .inr hS, fun as g hp ho hg => ?_⟩
    have has : as = asc row := asc_uniq hp ho
    refine ⟨1, rfl, _, rfl, g, _, rfl, SqL.of upd_same, fun q hq => ⟨q, _, rfl, .inl ⟨SqL.of upd_same, fun l hl2 => ?_⟩⟩⟩
    have sx := (same_new (o := .lst (as.map V.int)) hg).trans (same_new (o := .lst (cutV (as.map V.int) none (some (-1)))) hq)
    refine k l _ (sx.trans (same_new hl2)) (sx.free hl2) ?_
    rw [upd_same]
    have e := cut_last as
    show some (HO.tup (cutV (as.map V.int) none (some (-1)))) = _
    rw [e, has]; rfl
theorem scInRow : FnScope ["row", "value"] ["row", "value"] (defScope sInRow) := ⟨rfl, rfl, rfl, by decide +kernel, rfl, by decide +kernel, by decide +kernel⟩
def inRowD (row : List Int) : PyData → Bool
  | .int i => decide (i ∈ row)
  | _ => false
def spInRow (K : PySem.W.Frag) : Sp := fun vs H Q _ => ∃ (a : Addr) (row : List Int) (v : V) (dd : PyData), vs = [.ref a, v] ∧ SqT K H a (row.map V.int) ∧ Dq K H v dd ∧ Q (.bl (inRowD row dd)) H
theorem ok_inrow {f fP : Addr} {fd fdP : FuncData} (F : Fun K "is_in_row" "is_in_row" sInRow f fd) (GP : FnOk P w K mg base CX0 1 fP fdP ["value"] (spPlain K)) (mP : mg "is_plain_integer" = some (.ref fP)) (kP : PySem.W.keepIn K (.ref fP) = true) (bP : Binds K fdP ["value"] []) : FnOk P w K mg base CX0 2 f fd ["row", "value"] (spInRow K) := by
  refine F.ok scInRow (fun vs H Q E h => ?_) (fun cdv A outer s H vs Q E hr h => ?_)
  · obtain ⟨a, row, v, dd, rfl, _⟩ := h
    rfl
  · obtain ⟨a, row, v, dd, rfl, hS, hd, k⟩ := h
    refine ⟨_, pss_one (ps_ret (pe_and (pe_call GP hr (by rfl) mP kP bP .nil pass0 (pa_cons (pv 1) pa_nil)) (pe_one (pe_cmpR op_in_seq (pv 1) (pv 0) (by rfl))))), ?_⟩
    refine ⟨_, rfl, v, dd, rfl, hd, _, rfl, ?_⟩
    cases hd with
    | int i =>
      refine iteT ⟨_, rfl, _, rfl, a, _, rfl, .inr hS, rfl, flat_ints _, ?_⟩
      show Q (.bl (inV (.int i) (row.map V.int))) H
      rw [in_ints]
      exact k
    | _ => exact iteF k
theorem scIsThr : FnScope ["row", "value"] ["row", "value"] (defScope sIsThr) := ⟨rfl, rfl, rfl, by decide +kernel, rfl, by decide +kernel, by decide +kernel⟩
theorem fold_max_ge : ∀ (ns : List Int) (n : Int), n ≤ ns.foldl max n ∧ ∀ m ∈ ns, m ≤ ns.foldl max n
  | [], n => ⟨Int.le_refl _, fun _ h => nomatch h⟩
  | k :: ns, n => by
    obtain ⟨h1, h2⟩ := fold_max_ge ns (max n k)
    refine ⟨by simp only [List.foldl_cons]; omega, fun m hm => ?_⟩
    simp only [List.foldl_cons]
    rcases List.mem_cons.mp hm with rfl | hm
    · omega
    · exact h2 m hm
theorem fold_max_mem : ∀ (ns : List Int) (n : Int), ns.foldl max n ∈ n :: ns
  | [], n => by simp
  | k :: ns, n => by
    simp only [List.foldl_cons]
    rcases List.mem_cons.mp (fold_max_mem ns (max n k)) with h | h
    · rcases Int.le_total n k with q | q
      · rw [h, Int.max_eq_right q]; simp
      · rw [h, Int.max_eq_left q]; simp
    · exact List.mem_cons_of_mem _ (List.mem_cons_of_mem _ h)
theorem thr_max {row : List Int} {n i : Int} {ns : List Int} (e : row = n :: ns) (hn : row.Nodup) (hi : i ∈ row) : decide (i ∈ thr row) = decide (¬ i = ns.foldl max n) := by
  have g := fold_max_ge ns n
  have m := fold_max_mem ns n
  rw [Bool.eq_iff_iff, decide_eq_true_eq, decide_eq_true_eq, thr_iff hn]
  constructor
  · rintro ⟨_, z, hz, hlt⟩ h
    rw [e] at hz
    have : z ≤ ns.foldl max n := by
      rcases List.mem_cons.mp hz with rfl | hz
      · exact g.1
      · exact g.2 z hz
    omega
  · intro h
    refine ⟨hi, ns.foldl max n, by rw [e]; exact m, ?_⟩
    have : i ≤ ns.foldl max n := by
      rw [e] at hi
      rcases List.mem_cons.mp hi with rfl | hi
      · exact g.1
      · exact g.2 i hi
    omega
theorem ok_isthr {f fI : Addr} {fd fdI : FuncData} (F : Fun K "is_threshold" "is_threshold" sIsThr f fd) (GI : FnOk P w K mg base CX0 2 fI fdI ["row", "value"] (spInRow K)) (mI : mg "is_in_row" = some (.ref fI)) (kI : PySem.W.keepIn K (.ref fI) = true) (bI : Binds K fdI ["row", "value"] [])
    (mmax : mg "max" = none) : FnOk P w K mg base CX0 3 f fd ["row", "value"] (spIsThr K) := by
  refine F.ok scIsThr (fun vs H Q E h => ?_) (fun cdv A outer s H vs Q E hr h => ?_)
  · obtain ⟨a, row, v, dd, rfl, _⟩ := h
    rfl
  · obtain ⟨a, row, v, dd, rfl, hS, hR, hl, hd, k⟩ := h
    refine ⟨_, pss_one (ps_ret (pe_and (pe_call GI hr (by rfl) mI kI bI .nil pass0 (pa_cons (pv 0) (pa_cons (pv 1) pa_nil))) (pe_one (pe_cmpR op_ne (pv 1) (pe_callB (cr_maxE rfl hr.units) (by rfl) mmax (by decide +kernel) (pa_cons (pv 0) pa_nil)) (nomark _))))), ?_⟩
    refine ⟨_, rfl, _, rfl, a, row, v, dd, rfl, hS, hd, _, rfl, ?_⟩
    cases e : inRowD row dd with
    | false =>
      refine iteF ?_
      have : thD row dd = false := by
        cases dd <;> first | rfl | skip
        rename_i i
        have e : decide (i ∈ row) = false := e
        show (keyD _ && decide (i ∈ thr row)) = false
        rw [decide_eq_false (fun h => by have := ((thr_iff hR.nd i).mp h).1; simp at e; exact e this), Bool.and_false]
      rw [← this]
      exact k H (Same.refl H)
    | true =>
      refine iteT ?_
      cases hd with
      | int i =>
        have hi : i ∈ row := by have e : decide (i ∈ row) = true := e; simpa using e
        obtain ⟨n, ns, er⟩ := List.exists_cons_of_ne_nil (List.ne_nil_of_mem hi)
        refine ⟨_, rfl, _, rfl, a, n, ns, rfl, er ▸ hS, rfl, ?_⟩
        have : thD row (.int i) = !decide (V.int i = V.int (ns.foldl max n)) := by
          show (keyD (.int i) && decide (i ∈ thr row)) = _
          have hk := hR.key i hi
          have : keyD (.int i) = true := by
            show (decide (0 ≤ i) && decide (i ≤ 1000000000000)) = true
            simp; omega
          rw [this, Bool.true_and, thr_max er hR.nd hi]
          simp
        rw [← this]
        exact k H (Same.refl H)
      | _ => cases e
abbrev nLight : List Str := ["row", "threshold", "place", "key"]
theorem scLight : FnScope nLight ["row", "threshold"] (defScope sLight) := ⟨rfl, rfl, rfl, by decide +kernel, rfl, by decide +kernel, by decide +kernel⟩
theorem lights_step {row : List Int} {t z : Int} {i : Nat} (h : row[i]? = some z) : (((List.range (i + 1)).filter fun j => decide (row.getD j 0 ≤ t)).map fun (j : Nat) => (j : Int)) = (((List.range i).filter fun j => decide (row.getD j 0 ≤ t)).map fun (j : Nat) => (j : Int)) ++ (if z ≤ t then [(i : Int)] else []) := by
  have hz : row.getD i 0 = z := by rw [List.getD_eq_getElem?_getD, h]; rfl
  rw [List.range_succ, List.filter_append, List.map_append]
  by_cases q : z ≤ t
  · rw [if_pos q, List.filter_cons_of_pos (by rw [hz]; simpa using q)]; rfl
  · rw [if_neg q, List.filter_cons_of_neg (by rw [hz]; simpa using q)]; rfl
theorem ok_light {f fI fJ C : Addr} {fd fdI fdJ : FuncData} (F : Fun K "light_places" "light_places" sLight f fd) (GI : FnOk P w K mg base CX0 3 fI fdI ["row", "value"] (spIsThr K)) (mI : mg "is_threshold" = some (.ref fI)) (kI : PySem.W.keepIn K (.ref fI) = true) (bI : Binds K fdI ["row", "value"] [])
    (T : OexC K C) (GJ : FnOk P w K mg base CX0 1 fJ fdJ ["self", "value"] (spInit1 C "value")) (iC : PySem.W.findIn K (.ref C) "__init__" = some (some (.ref fJ))) (tJ : PySem.W.typeIn K (.ref fJ) = some (.type "function")) (bJ : Binds K fdJ ["self", "value"] []) (mC : mg "NoThreshold" = some (.ref C))
    (menu : mg "enumerate" = none) (mtup : mg "tuple" = none) : FnOk P w K mg base (L2.CX P w) 4 f fd ["row", "threshold"] (spLight K C) := by
  refine F.okX scLight (fun vs H Q E h => ?_) (fun cdv A outer s H vs Q E hr h => ?_)
  · obtain ⟨a, row, v, dd, rfl, _⟩ := h
    rfl
  · obtain ⟨a, row, v, dd, rfl, hS, hR, hl, hd, k1, k2⟩ := h
    have hr2 : Room 2 _ := hr.mono (by decide)
    refine ⟨_, pss_cons (ps_if (pt_not (pt_val (pe_call GI hr (by rfl) mI kI bI .nil pass0 (pa_cons (pv 0) (pa_cons (pv 1) pa_nil))))) (pss_one (ps_raise rfl (takes_of rfl rfl rfl rfl) (pmk_oex T iC tJ GJ hr2 bJ .nil pass0 (by rfl) mC (pa_cons (pv 1) pa_nil)))) pss_nil)
      (PSs.nox (pss_one (ps_ret (pe_callTy call_tuple_of (by rfl) mtup (by decide +kernel) (pa_cons (pe_lc (own := [("place", 2), ("key", 3)]) rfl scLight.nd (pi_enumT (by rfl) menu (pa_cons (pv 0) pa_nil))
        (blkOk_by (own := [("place", 2), ("key", 3)]) (N := nLight) (sc := defScope sLight) (by decide +kernel)) (fun _ _ _ _ _ => (pg_tup rfl (pgs_cons (pg_name (i := 2) scLight.nd rfl (.inl rfl)) (pgs_cons (pg_name (i := 3) scLight.nd rfl (.inl rfl)) pgs_nil)) : PG _ _ (gTup K 2 (gCons (gName 2) (gCons (gName 3) gNil)))))
        (fun _ _ _ _ _ => pts_one (pt_cmpR op_le (pv 3) (pv 1) (nomark _))) (fun _ _ _ _ _ => pv 2)) pa_nil))))), ?_⟩
    refine ⟨_, rfl, _, rfl, a, row, v, dd, rfl, hS, hR, hl, hd, fun H1 s1 => ⟨_, rfl, ?_⟩⟩
    cases e : thD row dd with
    | false =>
      refine iteT ?_
      refine ⟨_, rfl, by show 1 ≤ 1000; decide, fun b hb => ⟨b, v, rfl, upd_same, fun dx h1 h2 => ⟨rfl, dx, _, upd_same, by rw [upd_ne h2]; exact upd_same, ?_, ?_⟩⟩⟩
      · rw [upd_ne h2] at h1; exact h1
      · rw [made_heap hb h2]
        rw [upd_ne h2] at h1
        exact k1 e dx H1 s1 h1
    | true =>
      refine iteF ?_
      cases hd with
      | int t =>
        refine ⟨_, rfl, a, _, rfl, sameT s1 hS, fun D hD => ?_⟩
        refine lc_enumT (K := K) (a := a) (xs := row.map V.int) (fun i Hx => At H1 Hx D ((((List.range i).filter fun j => decide (row.getD j 0 ≤ t)).map fun (j : Nat) => (j : Int)).map V.int)) (At.nil hD) (fun i Hx _ aa => sameT (s1.trans aa.1) hS) ?_ ?_
        · rintro i y Hx T' hi aa hT
          obtain ⟨z, hz, rfl, hil⟩ := getI hi
          have sT := same_new (o := .tup [.int (i : Nat), .int z]) hT
          have aa2 : At H1 (upd Hx T' (.tup [.int (i : Nat), .int z])) D _ := ⟨aa.1.trans sT, sT _ _ aa.2⟩
          refine ⟨T', _, rfl, SqT.of upd_same, rfl, _, _, rfl, _, _, rfl, rfl, rfl, ?_⟩
          generalize upd Hx T' (.tup [.int (i : Nat), .int z]) = H3 at aa2 ⊢
          refine ⟨_, rfl, _, rfl, _, _, rfl, rfl, _, rfl, ?_⟩
          rw [lights_step hz]
          by_cases q : z ≤ t
          · rw [decide_eq_true q, if_pos q]
            refine iteT ?_
            refine ⟨_, rfl, _, aa2.2, ?_, ?_⟩
            · rw [List.length_map, List.length_map]
              have := List.length_filter_le (fun j => decide (row.getD j 0 ≤ t)) (List.range i)
              rw [List.length_range] at this
              exact small1000 (by omega)
            · rw [List.map_append]
              exact aa2.push hD _
          · rw [decide_eq_false q, if_neg q, List.append_nil]
            exact iteF aa2
        · intro Hx aa
          rw [List.length_map] at aa
          refine ⟨D, _, rfl, .inl ⟨SqL.of aa.2, fun l hl2 => ?_⟩⟩
          exact k2 t rfl e l _ ((s1.trans aa.1).trans (same_new hl2)) upd_same
      | _ => cases e
end
end LW

namespace LW
open PySem L2 KX MX
abbrev sLInv : Stmt := top 22
abbrev sTold : Stmt := top 23
section
variable {P : Program} {w : World} {K : PySem.W.Frag} {mg : Str → Option Value} {base : Heap}
abbrev nLInv : List Str := ["_law_row_here", "_law_found", "_law_later", "_law_place"]
theorem scLInv : FnScope nLInv ["_law_row_here"] (defScope sLInv) := ⟨rfl, rfl, rfl, by decide +kernel, rfl, by decide +kernel, by decide +kernel⟩
theorem ok_linv {f : Addr} {fd : FuncData} (F : Fun K "_law_inversions" "_law_inversions" sLInv f fd) (mran : mg "range" = none) (mlen : mg "len" = none) (mtup : mg "tuple" = none) (msor : mg "sorted" = none) : FnOk P w K mg base CX0 1 f fd ["_law_row_here"] (spInv K) := by
  refine F.ok scLInv (fun vs H Q E h => ?_) (fun cdv A outer s H vs Q E hr h => ?_)
  · obtain ⟨a, row, rfl, _⟩ := h
    rfl
  · obtain ⟨a, row, rfl, hS, hl, k⟩ := h
    refine ⟨_, pss_cons (ps_set (i := 1) scLInv.nd rfl (.inl rfl) (pe_lst pa_nil))
      (pss_cons (ps_for PassesOwn.never rfl (pi_range1 (by rfl) mran (pa_cons (pe_callB call_len_seq (by rfl) mlen PySem.boot_len (pa_cons (pv 0) pa_nil)) pa_nil)) (pg_name (i := 2) scLInv.nd rfl (.inl rfl))
        (pss_one (ps_for PassesOwn.never rfl (pi_range1 (by rfl) mran (pa_cons (pv 2) pa_nil)) (pg_name (i := 3) scLInv.nd rfl (.inl rfl))
          (pss_one (ps_if (pt_cmpR op_gt (pe_ix ix_tup (pv 0) (pv 3) (fun _ _ => rfl)) (pe_ix ix_tup (pv 0) (pv 2) (fun _ _ => rfl)) (nomark _)) (pss_one (ps_expr (pe_bm PySem.F.plainAttrs_list PySem.F.slot_list_append PySem.F.type_list_append mt_append (pv 1)
            (pa_cons (pe_tup (pa_cons (pe_ix ix_tup (pv 0) (pv 2) (fun _ _ => rfl)) (pa_cons (pe_ix ix_tup (pv 0) (pv 3) (fun _ _ => rfl)) pa_nil))) pa_nil)))) pss_nil)))))
      (pss_one (ps_ret (pe_callTy call_tuple_of (by rfl) mtup (by decide +kernel) (pa_cons (pe_callB cr_sortedPO (by rfl) msor (by decide +kernel) (pa_cons (pv 1) pa_nil)) pa_nil))))), ?_⟩
    refine ⟨Nat.zero_le _, fun g hg => ?_⟩
    have s1 : Same H (upd H g (.lst [])) := same_new hg
    have hg1 : upd H g (.lst []) g = some (.lst []) := upd_same
    generalize upd H g (.lst []) = H1 at s1 hg1 ⊢
    have hlv : (row.map V.int).length = row.length := List.length_map _
    have hat : ∀ {i : Nat} {z : Int}, row[i]? = some z → (row.map V.int)[i]? = some (V.int z) := fun h => by rw [List.getElem?_map, h]; rfl
    refine ⟨_, rfl, a, _, rfl, .inr (sameT s1 hS), _, rfl, by rw [hlv]; omega, by rw [hlv]; omega, ?_⟩
    rw [hlv]
    refine for_range (lo := 0) (n := row.length) (fun i σ Hx => ∃ (v2 v3 : Option V) (fs : List V) (ps : List (Int × Int)), σ = [some (.ref a), some (.ref g), v2, v3] ∧ Same H Hx ∧ Hx g = some (.lst fs) ∧ PairsAt Hx fs ps ∧ ps.Perm (invP (row.take i)) ∧ ps.length ≤ i * 29) ⟨none, none, [], [], rfl, s1, hg1, .nil, List.Perm.refl _, Nat.zero_le _⟩ ?_ ?_
    · rintro i σ Hx hi ⟨v2, v3, fs, ps, rfl, sx, hgx, hps, hperm, hlen⟩
      have hrow : row[i]? = some row[i] := List.getElem?_eq_getElem hi
      generalize row[i] = y at hrow
      rw [show (0 : Int) + (i : Int) = (i : Int) by omega]
      refine ⟨_, rfl, (i : Int), rfl, by omega, by omega, for_range (lo := 0) (n := i) (fun j σ Hy => ∃ (v3 : Option V) (fs : List V), σ = [some (.ref a), some (.ref g), some (.int (i : Int)), v3] ∧ Same H Hy ∧ Hy g = some (.lst fs) ∧ PairsAt Hy fs (ps ++ (((row.take j).filter fun z => decide (y < z)).map fun z => (y, z)))) ⟨v3, fs, rfl, sx, hgx, by simpa using hps⟩ ?_ ?_⟩
      · rintro j σ Hy hj ⟨v3, fs, rfl, sy, hgy, hpy⟩
        have hrj : row[j]? = some row[j] := List.getElem?_eq_getElem (by omega)
        generalize row[j] = u at hrj
        rw [show (0 : Int) + (j : Int) = (j : Int) by omega]
        refine ⟨_, rfl, _, rfl, a, _, _, _, rfl, rfl, sameT sy hS, atI_nat (hat hrj), _, rfl, _, rfl, a, _, _, _, rfl, rfl, sameT sy hS, atI_nat (hat hrow), _, _, rfl, rfl, _, rfl, ?_⟩
        rw [take_step hrj, List.filter_append]
        have hll : fs.length ≤ 29 * 29 + 29 := by
          have h1 := hpy.len
          rw [List.length_append, List.length_map] at h1
          have h2 := List.length_filter_le (fun z => decide (y < z)) (row.take j)
          rw [List.length_take] at h2
          have h3 : i * 29 ≤ 29 * 29 := Nat.mul_le_mul_right 29 (by omega)
          omega
        by_cases h : y < u
        · refine ite2 (fun _ => ?_) (fun q => absurd (decide_eq_true h) q)
          rw [List.filter_cons_of_pos (by simpa using h)]
          refine ⟨_, rfl, .inl ⟨rfl, _, SqL.of hgy⟩, _, rfl, _, rfl, a, _, _, _, rfl, rfl, sameT sy hS, atI_nat (hat hrow), _, rfl, _, rfl, a, _, _, _, rfl, rfl, sameT sy hS, atI_nat (hat hrj), by show 2 ≤ sizeLine; decide, fun t ht => ⟨g, _, _, rfl, rfl, (same_new ht) _ _ hgy, small1000 (by omega), ?_⟩⟩
          have st : Same Hy (upd Hy t (.tup [.int y, .int u])) := same_new ht
          have htt : upd Hy t (.tup [.int y, .int u]) t = some (.tup [.int y, .int u]) := upd_same
          generalize upd Hy t (.tup [.int y, .int u]) = Hz at st htt ⊢
          have keep : ∀ (vs : List V) (qs : List (Int × Int)), PairsAt Hz vs qs → PairsAt (upd Hz g (.lst (fs ++ [.ref t]))) vs qs := fun vs qs h => L2.Paired.mapP h fun v p ⟨t', e, q'⟩ => ⟨t', e, by
            have : t' ≠ g := ne_of q' (st _ _ hgy) (fun z' => by cases z')
            rw [upd_ne this]; exact q'⟩
          refine ⟨_, fs ++ [.ref t], rfl, fun b o e => ?_, upd_same, ?_⟩
          · rw [upd_ne (fun z' => by rw [z', hg] at e; cases e)]; exact st _ _ (sy _ _ e)
          · rw [List.map_append, ← List.append_assoc]
            exact keep _ _ ((hpy.same st).snoc ⟨t, rfl, htt⟩)
        · refine ite2 (fun q => absurd (of_decide_eq_true q) h) (fun _ => ?_)
          rw [List.filter_cons_of_neg (by simpa using h), List.filter_nil, List.append_nil]
          exact ⟨_, fs, rfl, sy, hgy, hpy⟩
      · rintro σ Hy ⟨v3, fs, rfl, sy, hgy, hpy⟩
        refine ⟨_, _, fs, _, rfl, sy, hgy, hpy, ?_, ?_⟩
        · rw [take_step hrow]
          exact (List.Perm.append_right _ hperm).trans (invP_snoc y (row.take i)).symm
        · rw [List.length_append, List.length_map]
          have h2 := List.length_filter_le (fun z => decide (y < z)) (row.take i)
          rw [List.length_take] at h2
          omega
    · rintro σ Hx ⟨v2, v3, fs, ps, rfl, sx, hgx, hps, hperm, hlen⟩
      rw [List.take_length] at hperm
      refine ⟨_, rfl, g, fs, keyOf Hx, rfl, SqL.of hgx, fun x hx => ?_, fun ys p h1 h2 hp => ?_⟩
      · obtain ⟨t, e, q⟩ := mem_at hps x hx
        exact ⟨t, e, q⟩
      · obtain ⟨a1, a2, a3⟩ := sorted_pairs hps h1 h2
        refine ⟨p, _, rfl, .inl ⟨SqL.of upd_same, fun l hl2 => ?_⟩⟩
        have sp : Same Hx (upd Hx p (.lst ys)) := same_new hp
        exact k l _ ys _ ((sx.trans sp).trans (same_new hl2)) (a2.trans hperm) a3 upd_same ((a1.same sp).same (same_new hl2))
/-- what the written part says of the classes that told names -/
structure ToldTxt (K : PySem.W.Frag) (mg : Str → Option Value) (C R CI CK CP : Addr) : Prop where
  mC : mg "NoThreshold" = some (.ref C)
  mR : mg "RowError" = some (.ref R)
  mI : mg "NoIndex" = some (.ref CI)
  mK : mg "NoKey" = some (.ref CK)
  mP : mg "NoPlace" = some (.ref CP)
  ex : PySem.W.exmOne K (.ref C) (.ref R) = some true
  er : ErrC K C
  xf : XfC K C
  no : PySem.W.findIn K (.ref C) "value" = some none
  kV : PySem.W.kitOne K (.ref C) (.type "ValueError") = some true
  kC : PySem.W.kitOne K (.ref C) (.ref C) = some true
  kI : PySem.W.kitOne K (.ref C) (.ref CI) = some false
  kK : PySem.W.kitOne K (.ref C) (.ref CK) = some false
  kP : PySem.W.kitOne K (.ref C) (.ref CP) = some false
abbrev nTold : List Str := ["_law_row_here", "_law_threshold", "_law_found", "error", "_law_alone"]
theorem scTold : FnScope nTold ["_law_row_here", "_law_threshold"] (defScope sTold) := ⟨rfl, rfl, rfl, by decide +kernel, rfl, by decide +kernel, by decide +kernel⟩
theorem ok_told {f fL C R CI CK CP : Addr} {fd fdL : FuncData} (F : Fun K "_law_told" "_law_told" sTold f fd) (GL : FnOk P w K mg base (L2.CX P w) 4 fL fdL ["row", "threshold"] (spLight K C)) (mL : mg "light_places" = some (.ref fL)) (kL : PySem.W.keepIn K (.ref fL) = true) (bL : Binds K fdL ["row", "threshold"] [])
    (T : ToldTxt K mg C R CI CK CP) (misi : mg "isinstance" = none) (mve : mg "ValueError" = none) : FnOk P w K mg base CX0 5 f fd ["_law_row_here", "_law_threshold"] (spTold K) := by
  refine F.ok scTold (fun vs H Q E h => ?_) (fun cdv A outer s H vs Q E hr h => ?_)
  · obtain ⟨a, row, v, dd, rfl, _⟩ := h
    rfl
  · obtain ⟨a, row, v, dd, rfl, hS, hR, hl, hd, k1, k2⟩ := h
    refine ⟨_, pss_cons (ps_set (i := 2) scTold.nd rfl (.inl rfl) pe_non)
      (pss_cons (ps_try_as (i := 3) rfl rfl scTold.nd rfl rfl ⟨rfl, by decide, .inl T.mR⟩ takes0 (fun W pn xe tk _ => pss_one (ps_set (i := 2) scTold.nd rfl (.inl rfl) (pe_callS GL hr rfl mL kL bL (fun σ => passAt tk σ) (pa_cons (pv 0) (pa_cons (pv 1) pa_nil)))))
        (fun e oe cls d pn hz hf => pss_cons (ps_set (i := 4) scTold.nd rfl (.inl rfl) (pe_and (pe_callB (call_isErr T.er hz hf) (by rfl) misi (by decide +kernel) (pa_cons (pv 3) (pa_cons (pe_bltn (v := .ty "ValueError") (by rfl) mve (by decide +kernel) rfl) pa_nil)))
            (pe_one (pe_not (pe_callB (call_isErrT T.er hz hf) (by rfl) misi (by decide +kernel) (pa_cons (pv 3) (pa_cons (pe_tup (pa_cons (pe_glob (v := .ref CI) rfl T.mI rfl) (pa_cons (pe_glob (v := .ref CK) rfl T.mK rfl) (pa_cons (pe_glob (v := .ref CP) rfl T.mP rfl) pa_nil)))) pa_nil)))))))
          (pss_one (ps_set (i := 2) scTold.nd rfl (.inl rfl) (pe_ifExp (PW.pt (pw_and (pt_val (pv 4)) (pw_and1 (pt_val (pe_callB (call_isErr T.er hz hf) (by rfl) misi (by decide +kernel) (pa_cons (pv 3) (pa_cons (pe_glob (v := .ref C) rfl T.mC rfl) pa_nil))))))) (pe_lst (pa_cons (pe_xf T.xf T.no hz hf (pv 3)) pa_nil)) pe_str)))))
      (pss_one (ps_ret (pv 2)))), ?_⟩
    refine ⟨_, rfl, _, rfl, a, row, v, dd, rfl, hS, hR, hl, hd, fun e dx H1 s1 h1 => ?_, fun i ei e p H1 s1 hp => ?_⟩
    · refine ⟨true, T.ex, fun _ ea hea => ?_, (fun q => Bool.noConfusion q)⟩
      have hx : upd H1 dx (.xd [("value", v)]) dx = some (.xd [("value", v)]) := upd_same
      have sx : Same H (upd H1 dx (.xd [("value", v)])) := s1.trans (same_new h1)
      generalize upd H1 dx (.xd [("value", v)]) = H2 at hx sx hea ⊢
      refine ⟨_, rfl, .ty "ValueError", _, true, dx, _, rfl, rfl, hx, rfl, .ty _, T.kV, _, rfl, ?_⟩
      refine iteT ?_
      refine ⟨_, rfl, by show 3 ≤ sizeLine; decide, fun tp htp => ⟨tp, _, _, false, dx, _, rfl, rfl, (same_new htp) _ _ hx, rfl, upd_same, .cons (.own CI) (.cons (.own CK) (.cons (.own CP) .nil)), kitAny_cons T.kI (fun _ => kitAny_cons T.kK (fun _ => kitAny_cons T.kP (fun _ => kitAny_nil) (fun z => nomatch z)) (fun z => nomatch z)) (fun z => nomatch z), _, rfl, ?_⟩⟩
      have hx2 := same_new (o := .tup [.ref CI, .ref CK, .ref CP]) htp _ _ hx
      have sx2 := sx.trans (same_new (o := .tup [.ref CI, .ref CK, .ref CP]) htp)
      generalize upd H2 tp (.tup [.ref CI, .ref CK, .ref CP]) = H3 at hx2 sx2 ⊢
      refine ⟨_, rfl, _, rfl, ?_⟩
      refine iteT ?_
      refine ⟨_, rfl, .ref C, _, true, dx, _, rfl, rfl, hx2, rfl, .own C, T.kC, _, rfl, ?_⟩
      refine iteT ?_
      refine ⟨_, rfl, rfl, rfl, dx, _, v, rfl, hx2, ?_, by show 1 ≤ sizeLine; decide, fun l hl2 => ?_⟩
      · simp [List.lookup]
      · exact ⟨_, rfl, k1 e l _ (sx2.trans (same_new hl2)) upd_same⟩
    · exact ⟨_, rfl, k2 i ei e p H1 s1 hp⟩
end
end LW

namespace LW
open PySem L2 KX MX
abbrev sDue : Stmt := top 24
section
variable {P : Program} {w : World} {K : PySem.W.Frag} {mg : Str → Option Value} {base : Heap}
abbrev nDue : List Str := ["_law_row_here", "_law_threshold", "_law_key", "_law_place"]
theorem scDue : FnScope nDue ["_law_row_here", "_law_threshold"] (defScope sDue) := ⟨rfl, rfl, rfl, by decide +kernel, rfl, by decide +kernel, by decide +kernel⟩
theorem ok_due {f fI : Addr} {fd fdI : FuncData} (F : Fun K "_law_due" "_law_due" sDue f fd) (GI : FnOk P w K mg base CX0 1 fI fdI ["_law_value"] (spIsKey K)) (mI : mg "_law_is_key" = some (.ref fI)) (kI : PySem.W.keepIn K (.ref fI) = true) (bI : Binds K fdI ["_law_value"] [])
    (mtup : mg "tuple" = none) (mran : mg "range" = none) (mlen : mg "len" = none) : FnOk P w K mg base CX0 2 f fd ["_law_row_here", "_law_threshold"] (spTold K) := by
  refine F.ok scDue (fun vs H Q E h => ?_) (fun cdv A outer s H vs Q E hr h => ?_)
  · obtain ⟨a, row, v, dd, rfl, _⟩ := h
    rfl
  · obtain ⟨a, row, v, dd, rfl, hS, hR, hl, hd, k1, k2⟩ := h
    refine ⟨_, pss_cons (ps_if (PW.pt (pw_or (pt_not (pt_val (pe_call GI hr (by rfl) mI kI bI .nil pass0 (pa_cons (pv 1) pa_nil)))) (pw_or (pt_cmpR op_notIn_seq (pv 1) (pv 0) (by rfl)) (pw_or1 (pt_cmpR (op_eqD hr.units)
          (pe_lc (own := [("_law_key", 2)]) (g := gName 2) rfl scDue.nd (pi_tup (pv 0)) (blkOk_by (own := [("_law_key", 2)]) (N := nDue) (sc := defScope sDue) (by decide +kernel)) (fun _ _ _ _ _ => pg_name (i := 2) scDue.nd rfl (.inl rfl)) (fun _ _ _ _ _ => pts_one (pt_cmpR op_gt (pv 2) (pv 1) (nomark _))) (fun _ _ _ _ _ => pv 2))
          (pe_lst pa_nil) (nomark _)))))) (pss_one (ps_ret (pe_lst (pa_cons (pv 1) pa_nil)))) pss_nil)
      (pss_one (ps_ret (pe_callTy call_tuple_of (by rfl) mtup (by decide +kernel) (pa_cons (pe_lc (own := [("_law_place", 3)]) (g := gName 3) rfl scDue.nd (pi_range1 (by rfl) mran (pa_cons (pe_callB call_len_seq (by rfl) mlen PySem.boot_len (pa_cons (pv 0) pa_nil)) pa_nil))
        (blkOk_by (own := [("_law_place", 3)]) (N := nDue) (sc := defScope sDue) (by decide +kernel)) (fun _ _ _ _ _ => pg_name (i := 3) scDue.nd rfl (.inl rfl)) (fun _ _ _ _ _ => pts_one (pt_cmpR op_le (pe_ix (show IxR _ (rIxT K) from ix_tup) (pv 0) (pv 3) (fun _ _ => rfl)) (pv 1) (nomark _))) (fun _ _ _ _ _ => pv 3)) pa_nil)))), ?_⟩
    have refuse : thD row dd = false → ∀ H1, Same H H1 → tRet (tLst (tCons (tVar 1) tNil)) { nx := fun _ H' => Q .non H', rt := Q } [some (.ref a), some v, none, none] H1 := fun e H1 s1 =>
      ⟨_, rfl, by show 1 ≤ sizeLine; decide, fun l hl2 => k1 e l _ (s1.trans (same_new hl2)) upd_same⟩
    refine ⟨_, rfl, v, dd, rfl, hd, _, rfl, ?_⟩
    cases e : keyD dd with
    | false =>
      refine iteT ?_
      refine iteT ?_
      refine refuse ?_ H (Same.refl H)
      cases dd <;> first | rfl | skip
      show (keyD _ && _) = false
      rw [e]; rfl
    | true =>
      refine iteF ?_
      cases hd with
      | int t =>
        have hth : thD row (.int t) = decide (t ∈ thr row) := by
          show (keyD (.int t) && decide (t ∈ thr row)) = _
          rw [e, Bool.true_and]
        refine ⟨_, rfl, _, rfl, a, _, rfl, .inr hS, rfl, flat_ints _, _, rfl, ?_⟩
        show if (!inV (.int t) (row.map V.int)) = true then _ else _
        rw [in_ints]
        by_cases hin : t ∈ row
        · rw [decide_eq_true hin]
          refine iteF ?_
          refine ⟨_, rfl, a, rfl, ⟨_, hS⟩, fun D hD => ?_⟩
          refine lc_tup (K := K) (a := a) (xs := row.map V.int) (fun i Hx => At H Hx D (((row.take i).filter fun y => decide (t < y)).map V.int)) (At.nil hD) (fun i Hx _ aa => sameT aa.1 hS) ?_ ?_
          · rintro i y Hx hi aa
            obtain ⟨u, hu, rfl, hil⟩ := getI hi
            have hll : (((row.take i).filter fun y => decide (t < y)).map V.int).length < sizeLine := by
              rw [List.length_map]
              have := List.length_filter_le (fun y => decide (t < y)) (row.take i)
              rw [List.length_take] at this
              exact small1000 (by omega)
            refine ⟨rfl, _, rfl, _, rfl, _, _, rfl, rfl, _, rfl, ?_⟩
            rw [take_step hu, List.filter_append]
            by_cases h : t < u
            · rw [List.filter_cons_of_pos (by simpa using h)]
              refine ite2 (fun _ => ?_) (fun q => absurd (decide_eq_true h) q)
              refine ⟨_, rfl, _, aa.2, hll, ?_⟩
              rw [List.map_append]
              exact aa.push hD _
            · rw [List.filter_cons_of_neg (by simpa using h)]
              refine ite2 (fun q => absurd (of_decide_eq_true q) h) (fun _ => ?_)
              simpa using aa
          · intro Hx aa
            rw [List.length_map, List.take_length] at aa
            refine ⟨Nat.zero_le _, fun b hb => ?_⟩
            have aD := same_new (o := .lst []) hb _ _ aa.2
            have sb := aa.1.trans (same_new (o := .lst []) hb)
            refine ⟨.list ((row.filter fun y => decide (t < y)).map PyData.int), .list [], .lst (SqL.of aD) (dp_ints _), .lst (SqL.of upd_same) .nil, shaped_ints _, shaped_ints [], _, rfl, ?_⟩
            rw [show PyData.eqv (.list ((row.filter fun y => decide (t < y)).map PyData.int)) (.list []) = decide ((row.filter fun y => decide (t < y)) = []) from eqv_ints _ []]
            by_cases hem : (row.filter fun y => decide (t < y)) = []
            · rw [decide_eq_true hem]
              refine iteT ?_
              refine refuse ?_ _ sb
              rw [hth]
              refine decide_eq_false fun q => ?_
              obtain ⟨_, z, hz, hlt⟩ := (thr_iff hR.nd t).mp q
              have : z ∈ row.filter fun y => decide (t < y) := List.mem_filter.mpr ⟨hz, by simpa using hlt⟩
              rw [hem] at this
              cases this
            · rw [decide_eq_false hem]
              refine iteF ?_
              have hyes : thD row (.int t) = true := by
                rw [hth]
                refine decide_eq_true ((thr_iff hR.nd t).mpr ⟨hin, ?_⟩)
                obtain ⟨z, l, hzl⟩ := List.exists_cons_of_ne_nil hem
                have hz : z ∈ row.filter fun y => decide (t < y) := by rw [hzl]; exact List.mem_cons_self
                exact ⟨z, (List.mem_filter.mp hz).1, by simpa using (List.mem_filter.mp hz).2⟩
              generalize upd Hx b (.lst []) = H2 at sb
              have hlv : (row.map V.int).length = row.length := List.length_map _
              refine ⟨_, rfl, a, _, rfl, .inr (sameT sb hS), _, rfl, by rw [hlv]; omega, by rw [hlv]; omega, fun D2 hD2 => ?_⟩
              rw [hlv]
              refine lc_range (lo := 0) (n := row.length) (fun i Hx => At H2 Hx D2 ((((List.range i).filter fun j => decide (row.getD j 0 ≤ t)).map fun (j : Nat) => (j : Int)).map V.int)) (At.nil hD2) ?_ ?_
              · rintro i Hy hi aa2
                have hrow : row[i]? = some row[i] := List.getElem?_eq_getElem hi
                generalize row[i] = z at hrow
                have hat : (row.map V.int)[i]? = some (V.int z) := by rw [List.getElem?_map, hrow]; rfl
                rw [show (0 : Int) + (i : Int) = (i : Int) by omega]
                refine ⟨rfl, _, rfl, _, rfl, a, _, _, _, rfl, rfl, sameT (sb.trans aa2.1) hS, atI_nat hat, _, rfl, _, _, rfl, rfl, _, rfl, ?_⟩
                rw [lights_step hrow]
                by_cases q : z ≤ t
                · rw [if_pos q]
                  refine ite2 (fun _ => ?_) (fun q2 => absurd (decide_eq_true q) q2)
                  refine ⟨_, rfl, _, aa2.2, ?_, ?_⟩
                  · rw [List.length_map, List.length_map]
                    have := List.length_filter_le (fun j => decide (row.getD j 0 ≤ t)) (List.range i)
                    rw [List.length_range] at this
                    exact small1000 (by omega)
                  · rw [List.map_append]
                    exact aa2.push hD2 _
                · rw [if_neg q, List.append_nil]
                  exact ite2 (fun q2 => absurd (of_decide_eq_true q2) q) (fun _ => aa2)
              · intro Hy aa2
                refine ⟨D2, _, rfl, .inl ⟨SqL.of aa2.2, fun l hl2 => ?_⟩⟩
                exact k2 t rfl hyes l _ ((sb.trans aa2.1).trans (same_new hl2)) upd_same
        · rw [decide_eq_false hin]
          refine iteT ?_
          refine refuse ?_ H (Same.refl H)
          rw [hth]
          exact decide_eq_false fun q => hin ((thr_iff hR.nd t).mp q).1
      | _ => cases e
end
end LW

namespace KX
open PySem PySem.Spec L2
open PyProof.Rows hiding St
/-- each value is data that repr shows -/
def AllFine (K : PySem.W.Frag) (H : Hp) (xs : List V) : Prop := ∀ v ∈ xs, ∃ dd, Dq K H v dd ∧ FineQ dd 2 1000
theorem AllFine.same {K : PySem.W.Frag} {H H' : Hp} {xs : List V} (s : Same H H') (h : AllFine K H xs) : AllFine K H' xs := fun v hv => by
  obtain ⟨dd, h1, h2⟩ := h v hv
  exact ⟨dd, h1.same s, h2⟩
theorem AllFine.app {K : PySem.W.Frag} {H : Hp} {xs ys : List V} (h1 : AllFine K H xs) (h2 : AllFine K H ys) : AllFine K H (xs ++ ys) := fun v hv => (List.mem_append.mp hv).elim (h1 v) (h2 v)
theorem AllFine.nil {K : PySem.W.Frag} {H : Hp} : AllFine K H [] := fun _ h => nomatch h
theorem AllFine.cons {K : PySem.W.Frag} {H : Hp} {v : V} {xs : List V} {dd : PyData} (h : Dq K H v dd) (f : FineQ dd 2 1000) (r : AllFine K H xs) : AllFine K H (v :: xs) := fun u hu => by
  rcases List.mem_cons.mp hu with e | hu
  · subst e; exact ⟨dd, h, f⟩
  · exact r u hu
theorem fine_ints {K : PySem.W.Frag} {H : Hp} {ns : List Int} (h : ∀ k ∈ ns, k.natAbs < 10 ^ 13) : AllFine K H (ns.map V.int) := fun v hv => by
  obtain ⟨k, hk, rfl⟩ := List.mem_map.mp hv
  exact ⟨.int k, .int k, (FineD.int (h k hk)).q.mono (by decide) (by decide)⟩
theorem fine_num {i : Int} (h0 : 0 ≤ i) (h : i < 10 ^ 13) : FineQ (.str (Str.ofString (toString i))) 2 1000 := by
  obtain ⟨m, rfl⟩ := Int.eq_ofNat_of_zero_le h0
  have hs : ∀ c ∈ (Str.ofString (toString (m : Int))).cps.toList, c < 16 ^ 8 := by
    intro c hc
    rw [PySem.W.KIN.signs_num] at hc
    obtain ⟨ch, _, rfl⟩ := List.mem_map.mp hc
    exact ch.val.toNat_lt
  have h1 := StrLaws.reprText_len _ hs
  have h2 : (Str.ofString (toString (m : Int))).length ≤ 14 := by
    rw [PySem.ofString_length]; exact int_text_length_le10 (k := 13) (by decide) (by omega)
  refine ⟨rfl, Nat.zero_le _, ?_⟩
  show (reprText _).length ≤ 1000
  omega
end KX
namespace LW
open PySem L2 KX MX
abbrev sLaw : Stmt := top 25
section
variable {P : Program} {w : World} {K : PySem.W.Frag} {mg : Str → Option Value} {base : Heap}
abbrev nLaw : List Str := ["_law_script", "_law_supply_here", "_law_turn", "_law_row_here", "_law_shown", "_law_others", "_law_value"]
theorem scLaw : FnScope nLaw ["_law_script"] (defScope sLaw) := ⟨rfl, rfl, rfl, by decide +kernel, rfl, by decide +kernel, by decide +kernel⟩
def spLaw (K : PySem.W.Frag) : Sp := fun vs H Q _ => ∃ (a : Addr) (ns : List Int), vs = [.ref a] ∧ SqL K H a (ns.map V.int) ∧ ns.length ≤ 63 ∧ ∀ H', Q (.bl true) H'
theorem ok_law {f fU fR fV fH fW fD fT fE : Addr} {fd fdU fdR fdV fdH fdW fdD fdT fdE : FuncData} (F : Fun K "law" "law" sLaw f fd)
    (GU : FnOk P w K mg base CX0 1 fU fdU ["_law_script"] (spSupply K)) (mU : mg "_law_supply" = some (.ref fU)) (kU : PySem.W.keepIn K (.ref fU) = true) (bU : Binds K fdU ["_law_script"] [])
    (GR : FnOk P w K mg base CX0 3 fR fdR ["_law_supply_here", "_law_most"] spRow) (mR : mg "_law_row" = some (.ref fR)) (kR : PySem.W.keepIn K (.ref fR) = true) (bR : Binds K fdR ["_law_supply_here", "_law_most"] [])
    (GV : FnOk P w K mg base CX0 1 fV fdV ["row"] (spInv K)) (mV : mg "inversions" = some (.ref fV)) (kV : PySem.W.keepIn K (.ref fV) = true) (bV : Binds K fdV ["row"] [])
    (GH : FnOk P w K mg base CX0 1 fH fdH ["row"] (spRowFn K thr)) (mH : mg "thresholds" = some (.ref fH)) (kH : PySem.W.keepIn K (.ref fH) = true) (bH : Binds K fdH ["row"] [])
    (GW : FnOk P w K mg base CX0 1 fW fdW ["_law_row_here"] (spInv K)) (mW : mg "_law_inversions" = some (.ref fW)) (kW : PySem.W.keepIn K (.ref fW) = true) (bW : Binds K fdW ["_law_row_here"] [])
    (GD : FnOk P w K mg base CX0 3 fD fdD ["_law_supply_here"] (spOdd K)) (mD : mg "_law_odd" = some (.ref fD)) (kD : PySem.W.keepIn K (.ref fD) = true) (bD : Binds K fdD ["_law_supply_here"] [])
    (GT : FnOk P w K mg base CX0 5 fT fdT ["_law_row_here", "_law_threshold"] (spTold K)) (mT : mg "_law_told" = some (.ref fT)) (kT : PySem.W.keepIn K (.ref fT) = true) (bT : Binds K fdT ["_law_row_here", "_law_threshold"] [])
    (GE : FnOk P w K mg base CX0 2 fE fdE ["_law_row_here", "_law_threshold"] (spTold K)) (mE : mg "_law_due" = some (.ref fE)) (kE : PySem.W.keepIn K (.ref fE) = true) (bE : Binds K fdE ["_law_row_here", "_law_threshold"] [])
    (mran : mg "range" = none) (mtup : mg "tuple" = none) (mrep : mg "repr" = none) (msor : mg "sorted" = none) (mmax : mg "max" = none) (mmin : mg "min" = none) (mstr : mg "str" = none) (mlis : mg "list" = none) : FnOkG P w K mg base CX0 6 f fd ["_law_script"] (spLaw K) := by
  refine Fun.okG F scLaw (fun vs H Q E h => ?_) (fun cdv A outer s H vs Q E hgd hr h => ?_)
  · obtain ⟨a, ns, rfl, _⟩ := h
    rfl
  · obtain ⟨a, ns, rfl, hS, hl, k⟩ := h
    have hr1 : Room 1 _ := hr.mono (by decide)
    have hr2 : Room 2 _ := hr.mono (by decide)
    have hr3 : Room 3 _ := hr.mono (by decide)
    have hu := hr.units
    refine ⟨_, pss_cons (ps_set (i := 1) scLaw.nd rfl (.inl rfl) (pe_call GU hr1 (by rfl) mU kU bU .nil pass0 (pa_cons (pv 0) pa_nil)))
      (pss_cons (ps_for PassesOwn.never rfl (pi_range1 (by rfl) mran (pa_cons pe_int pa_nil)) (pg_name (i := 2) scLaw.nd rfl (.inl rfl))
        (pss_cons (ps_set (i := 3) scLaw.nd rfl (.inl rfl) (pe_call GR hr3 (by rfl) mR kR bR .nil pass0 (pa_cons (pv 1) (pa_cons pe_int pa_nil))))
        (pss_cons (ps_set (i := 4) scLaw.nd rfl (.inl rfl) (pe_callB (cr_reprQ hgd hu) (by rfl) mrep (by decide +kernel) (pa_cons (pv 3) pa_nil)))
        (pss_cons (ps_if (pt_cmpR op_ne (pe_callB (cr_reprQ hgd hu) (by rfl) mrep (by decide +kernel) (pa_cons (pe_lst (pa_cons (pe_call GV hr1 (by rfl) mV kV bV .nil pass0 (pa_cons (pv 3) pa_nil)) (pa_cons (pe_call GH hr1 (by rfl) mH kH bH .nil pass0 (pa_cons (pv 3) pa_nil)) pa_nil))) pa_nil))
            (pe_callB (cr_reprQ hgd hu) (by rfl) mrep (by decide +kernel) (pa_cons (pe_lst (pa_cons (pe_call GW hr1 (by rfl) mW kW bW .nil pass0 (pa_cons (pv 3) pa_nil)) (pa_cons (pe_callTy call_tuple_of (by rfl) mtup (by decide +kernel) (pa_cons (pe_slice sl_list (pe_callB cr_srt (by rfl) msor (by decide +kernel) (pa_cons (pv 3) pa_nil)) po_none (po_some (pe_un un_neg pe_int))) pa_nil)) pa_nil))) pa_nil)) (nomark _)) (pss_one (ps_ret pe_bl)) pss_nil)
        (pss_cons (ps_set (i := 5) scLaw.nd rfl (.inl rfl) (pe_lst (pa_cons (pe_op op_add (pe_callB (cr_maxT rfl hu) (by rfl) mmax (by decide +kernel) (pa_cons (pv 3) pa_nil)) pe_int) (pa_cons (pe_op op_sub (pe_callB (cr_minT rfl hu) (by rfl) mmin (by decide +kernel) (pa_cons (pv 3) pa_nil)) pe_int) (pa_cons pe_bl (pa_cons pe_bl (pa_cons pe_non
            (pa_cons (pe_callTy call_str_int (by rfl) mstr (by decide +kernel) (pa_cons (pe_ix ix_tup (pv 3) pe_int (fun _ _ => rfl)) pa_nil)) (pa_cons (pe_tup (pa_cons (pe_ix ix_tup (pv 3) pe_int (fun _ _ => rfl)) pa_nil)) (pa_cons (pe_lst (pa_cons (pe_ix ix_tup (pv 3) pe_int (fun _ _ => rfl)) pa_nil)) (pa_cons pe_dnewK (pa_cons (pv 3) pa_nil))))))))))))
        (pss_cons (ps_for PassesOwn.never rfl (pi_list (pe_op op_cat (pe_op op_cat (pe_callTy call_list_of (by rfl) mlis (by decide +kernel) (pa_cons (pv 3) pa_nil)) (pv 5)) (pe_lst (pa_cons (pe_call GD hr3 (by rfl) mD kD bD .nil pass0 (pa_cons (pv 1) pa_nil)) (pa_cons (pe_call GD hr3 (by rfl) mD kD bD .nil pass0 (pa_cons (pv 1) pa_nil)) pa_nil))))) (pg_name (i := 6) scLaw.nd rfl (.inl rfl))
          (pss_one (ps_if (pt_cmpR op_ne (pe_callB (cr_reprQ hgd hu) (by rfl) mrep (by decide +kernel) (pa_cons (pe_call GT hr (by rfl) mT kT bT .nil pass0 (pa_cons (pv 3) (pa_cons (pv 6) pa_nil))) pa_nil)) (pe_callB (cr_reprQ hgd hu) (by rfl) mrep (by decide +kernel) (pa_cons (pe_call GE hr2 (by rfl) mE kE bE .nil pass0 (pa_cons (pv 3) (pa_cons (pv 6) pa_nil))) pa_nil)) (nomark _)) (pss_one (ps_ret pe_bl)) pss_nil)))
        (pss_one (ps_if (pt_cmpR op_ne (pe_callB (cr_reprQ hgd hu) (by rfl) mrep (by decide +kernel) (pa_cons (pv 3) pa_nil)) (pv 4) (nomark _)) (pss_one (ps_ret pe_bl)) pss_nil))))))))
      (pss_one (ps_ret pe_bl))), ?_⟩
    refine ⟨_, rfl, a, ns, rfl, hS, hl, fun d c H1 hd0 hc0 s1 S1 => ?_⟩
    refine ⟨4, rfl, by decide, by decide, for_range (lo := 0) (n := 4) (fun i σ Hx => ∃ (v2 v3 v4 v5 v6 : Option V), σ = [some (.ref a), some (.ref d), v2, v3, v4, v5, v6] ∧ Sup Hx d c) ⟨none, none, none, none, none, rfl, S1⟩ ?_ ?_⟩
    · rintro i σ Hx hi ⟨v2, v3, v4, v5, v6, rfl, Sx⟩
      refine ⟨_, rfl, d, c, 24, rfl, Sx, by decide, by decide, fun p H2 row hR hl1 hl2 S2 x2 hp0 hp => ?_⟩
      have hpd : p ≠ d := fun z => Sx.hasD (z ▸ hp0)
      have hpc : p ≠ c := fun z => Sx.hasC (z ▸ hp0)
      have fr : FineQ (.tuple (row.map PyData.int)) 1 1000 := (fine_row (by omega) hR.small).q
      refine ⟨_, rfl, _, _, rfl, .tup (SqT.of hp) (dq_ints row), fr.sh, Nat.le_trans fr.dp (by decide), Nat.le_trans fr.sz (by decide), ?_⟩
      have hthr : (thr row).length ≤ 24 := by unfold thr; rw [List.length_dropLast, (asc_perm row).length_eq]; omega
      have ft : FineQ (.tuple ((thr row).map PyData.int)) 1 1000 := (fine_row (by omega) fun z hz => hR.small z ((thr_iff hR.nd z).mp hz).1).q
      have fi : ∀ ps : List (Int × Int), ps.Perm (invP row) → FineQ (.tuple (ps.map pairD)) 2 40000 := by
        intro ps hps
        have h1 : ∀ x ∈ ps.map pairD, FineQ x 1 35 := by
          intro x hx
          obtain ⟨q, hq, rfl⟩ := List.mem_map.mp hx
          have hm := invP_mem row q (hps.mem_iff.mp hq)
          refine FineQ.tup (ds := [.int q.1, .int q.2]) (dep := 0) (B := 14) fun y hy => ?_
          rcases List.mem_cons.mp hy with e | hy
          · subst e; exact (FineD.int (hR.small _ hm.1)).q
          · rw [List.mem_singleton] at hy; subst hy; exact (FineD.int (hR.small _ hm.2)).q
        refine (FineQ.tup h1).mono (by decide) ?_
        rw [List.length_map, hps.length_eq]
        have := invP_len row
        have h2 : row.length * row.length ≤ 24 * 24 := Nat.mul_le_mul hl2 hl2
        omega
      refine ⟨_, rfl, p, row, rfl, SqT.of hp, by omega, fun q1 H3 ts ps s3 hps1 hps2 hq1 hts => ?_⟩
      refine ⟨_, rfl, p, row, rfl, SqT.of (s3 _ _ hp), hR, by omega, fun q2 H4 s4 hq20 hq2 => ?_⟩
      have ff : FineQ (.list [.tuple (ps.map pairD), .tuple ((thr row).map PyData.int)]) 3 80007 := by
        refine (FineQ.lst (dep := 2) (B := 40000) fun z hz => ?_).mono (by decide) (by show 2 * (40000 + 2) + 3 ≤ 80007; decide)
        rcases List.mem_cons.mp hz with e | hz
        · subst e; exact fi ps hps1
        · rw [List.mem_singleton] at hz; subst hz; exact ft.mono (by decide) (by decide)
      refine ⟨by show 2 ≤ sizeLine; decide, fun l1 hl1' => ⟨_, .list [.tuple (ps.map pairD), .tuple ((thr row).map PyData.int)], rfl, .lst (SqL.of upd_same) (.cons (.tup (SqT.of (same_new hl1' _ _ (s4 _ _ hq1))) ((hts.same s4).same (same_new hl1')).dq) (.cons (.tup (SqT.of (same_new hl1' _ _ hq2)) (dq_ints _)) .nil)), ff.sh, Nat.le_trans ff.dp (by decide), Nat.le_trans ff.sz (by decide), ?_⟩⟩
      have s5 : Same H2 (upd H4 l1 (.lst [.ref q1, .ref q2])) := (s3.trans s4).trans (same_new hl1')
      generalize upd H4 l1 (.lst [.ref q1, .ref q2]) = H5 at s5 ⊢
      refine ⟨_, rfl, p, row, rfl, SqT.of (s5 _ _ hp), by omega, fun q3 H6 ts' ps' s6 hps1' hps2' hq3 hts' => ?_⟩
      obtain rfl : ps' = ps := lex_uniq (hps1'.trans hps1.symm) hps2' hps2
      refine ⟨_, rfl, p, row, rfl, .inr (SqT.of (s6 _ _ (s5 _ _ hp))), fun as g hpa ho hg => ?_⟩
      have has : as = asc row := asc_uniq hpa ho
      refine ⟨1, rfl, _, rfl, g, _, rfl, SqL.of upd_same, fun q hq => ⟨q, _, rfl, .inl ⟨SqL.of upd_same, fun q4 hq4 => ?_⟩⟩⟩
      have ec : cutV (as.map V.int) none (some (-1)) = (thr row).map V.int := by rw [cut_last, has]; rfl
      have s7 := ((same_new (o := .lst (as.map V.int)) hg).trans (same_new (o := .lst (cutV (as.map V.int) none (some (-1)))) hq)).trans (same_new (o := .tup (cutV (as.map V.int) none (some (-1)))) hq4)
      refine ⟨by show 2 ≤ sizeLine; decide, fun l2 hl2' => ⟨_, .list [.tuple (ps'.map pairD), .tuple ((thr row).map PyData.int)], rfl, .lst (SqL.of upd_same) (.cons (.tup (SqT.of (same_new hl2' _ _ (s7 _ _ hq3))) ((hts'.same s7).same (same_new hl2')).dq) (.cons (.tup (SqT.of (same_new hl2' _ _ (upd_same.trans (congrArg (fun l => some (HO.tup l)) ec)))) (dq_ints _)) .nil)), ff.sh, Nat.le_trans ff.dp (by decide), Nat.le_trans ff.sz (by decide), rfl, _, rfl, ?_⟩⟩
      refine iteNS rfl ?_
      have s8 := ((s5.trans s6).trans s7).trans (same_new (o := .lst [.ref q3, .ref q4]) hl2')
      have hp8 := s8 _ _ hp
      have S8 := S2.same s8
      clear s7 hl2' hq4 hq hg ff
      generalize upd _ l2 (.lst [.ref q3, .ref q4]) = H8 at s8 hp8 S8 ⊢
      obtain ⟨r0, rest, hrow⟩ : ∃ r0 rest, row = r0 :: rest := List.exists_cons_of_ne_nil (fun z => by rw [z] at hl1; simp at hl1)
      have hr0 : r0 ∈ row := by rw [hrow]; exact List.mem_cons_self
      have hat0 : atI (row.map V.int) 0 = some (V.int r0) := by rw [hrow]; exact atI_nat (j := 0) rfl
      have hk0 := hR.key r0 hr0
      have hne : row ≠ [] := by rw [hrow]; exact List.cons_ne_nil _ _
      have hlog : r0.natAbs.log2 < 1920 := by have := (FineD.int (hR.small r0 hr0)).sh; simpa [PyData.showable] using this
      refine ⟨_, rfl, p, row, rfl, SqT.of hp8, hne, fun m1 hm1 => ⟨_, _, rfl, rfl, _, rfl, p, row, rfl, SqT.of hp8, hne, fun m2 hm2 => ⟨_, _, rfl, rfl, _, rfl, p, _, _, _, rfl, rfl, SqT.of hp8, hat0, r0, rfl, hlog, _, rfl, p, _, _, _, rfl, rfl, SqT.of hp8, hat0, by show 1 ≤ sizeLine; decide, fun e1 he1 => ?_⟩⟩⟩
      obtain ⟨S9, x9, f9⟩ := new_step (o := .tup [.int r0]) S8 he1
      generalize upd H8 e1 (.tup [.int r0]) = H9 at S9 x9 f9 ⊢
      have fp8 : hideX H8 d c p = some (.tup (row.map V.int)) := by rw [hide_at hpd hpc]; exact hp8
      have fp9 := hide_mono x9 _ _ fp8
      refine ⟨_, rfl, p, _, _, _, rfl, rfl, SqT.of (hide_same _ _ fp9), hat0, by show 1 ≤ sizeLine; decide, fun e2 he2 => ?_⟩
      obtain ⟨S10, x10, f10⟩ := new_step (o := .lst [.int r0]) S9 he2
      generalize upd H9 e2 (.lst [.int r0]) = H10 at S10 x10 f10 ⊢
      refine fun e3 he3 => ?_
      obtain ⟨S11, x11, f11⟩ := new_step (o := .dK []) S10 he3
      generalize upd H10 e3 (.dK []) = H11 at S11 x11 f11 ⊢
      refine ⟨_, rfl, by show 10 ≤ sizeLine; decide, fun e4 he4 => ?_⟩
      obtain ⟨S12, x12, f12⟩ := new_step (o := .lst [.int (m1 + 1), .int (m2 - 1), .bl true, .bl false, .non, .str (Str.ofString (toString r0)), .ref e1, .ref e2, .ref e3, .ref p]) S11 he4
      show tSeq _ _ _ _ (upd H11 e4 (.lst [.int (m1 + 1), .int (m2 - 1), .bl true, .bl false, .non, .str (Str.ofString (toString r0)), .ref e1, .ref e2, .ref e3, .ref p]))
      generalize hoth : ([.int (m1 + 1), .int (m2 - 1), .bl true, .bl false, .non, .str (Str.ofString (toString r0)), .ref e1, .ref e2, .ref e3, .ref p] : List V) = oth at S12 x12 f12 ⊢
      generalize upd H11 e4 (.lst oth) = H12 at S12 x12 f12 ⊢
      have fp12 := hide_mono ((x10.trans x11).trans x12) _ _ fp9
      have afo : AllFine K (hideX H12 d c) oth := by
        rw [← hoth]
        have b1 := hR.key m1 hm1
        have b2 := hR.key m2 hm2
        have small : ∀ {z : Int}, z.natAbs < 10 ^ 13 → FineQ (.int z) 2 1000 := fun h => (FineD.int h).q.mono (by decide) (by decide)
        refine .cons (.int _) (small (by omega)) (.cons (.int _) (small (by omega)) (.cons (.bl _) ((FineD.bool _).q.mono (by decide) (by decide)) (.cons (.bl _) ((FineD.bool _).q.mono (by decide) (by decide)) (.cons .non (FineD.none.q.mono (by decide) (by decide)) (.cons (.str _) (fine_num hk0.1 (by omega))
          (.cons (.tup (SqT.of (hide_mono ((x10.trans x11).trans x12) _ _ f9)) (.cons (.int r0) .nil)) ?_ (.cons (.lst (SqL.of (hide_mono (x11.trans x12) _ _ f10)) (.cons (.int r0) .nil)) ?_ (.cons (.dct (kvs := []) (hide_mono x12 _ _ f11)) ⟨rfl, by decide, by decide⟩ (.cons (.tup (SqT.of fp12) (dq_ints row)) (fr.mono (by decide) (by decide)) .nil)))))))))
        · exact (FineQ.tup (ds := [.int r0]) (dep := 0) (B := 14) fun y hy => by rw [List.mem_singleton] at hy; subst hy; exact (FineD.int (hR.small _ hr0)).q).mono (by decide) (by show 1 * (14 + 2) + 3 ≤ 1000; decide)
        · exact (FineQ.lst (ds := [.int r0]) (dep := 0) (B := 14) fun y hy => by rw [List.mem_singleton] at hy; subst hy; exact (FineD.int (hR.small _ hr0)).q).mono (by decide) (by show 1 * (14 + 2) + 3 ≤ 1000; decide)
      have lo : oth.length = 10 := by rw [← hoth]; rfl
      refine ⟨_, rfl, p, _, rfl, .inr (SqT.of (hide_same _ _ fp12)), fun g1 hg1 => ?_⟩
      obtain ⟨S13, x13, f13⟩ := new_step (o := .lst (row.map V.int)) S12 hg1
      generalize upd H12 g1 (.lst (row.map V.int)) = H13 at S13 x13 f13 ⊢
      refine ⟨_, rfl, g1, e4, _, _, rfl, rfl, hide_same _ _ f13, hide_same _ _ (hide_mono x13 _ _ f12), by rw [List.length_map, lo]; exact Nat.le_trans (show _ ≤ 1000 by omega) (by decide), fun g2 hg2 => ?_⟩
      obtain ⟨S14, x14, f14⟩ := new_step (o := .lst (row.map V.int ++ oth)) S13 hg2
      generalize upd H13 g2 (.lst (row.map V.int ++ oth)) = H14 at S14 x14 f14 ⊢
      refine ⟨_, rfl, d, c, rfl, S14, fun w1 dd1 H15 hdd1 hw1 S15 x15 => ?_⟩
      refine ⟨_, rfl, d, c, rfl, S15, fun w2 dd2 H16 hdd2 hw2 S16 x16 => ?_⟩
      refine ⟨by show 2 ≤ sizeLine; decide, fun g3 hg3 => ?_⟩
      obtain ⟨S17, x17, f17⟩ := new_step (o := .lst [w1, w2]) S16 hg3
      generalize upd H16 g3 (.lst [w1, w2]) = H17 at S17 x17 f17 ⊢
      have f14' := hide_mono ((x15.trans x16).trans x17) _ _ f14
      refine ⟨g2, g3, _, _, rfl, rfl, hide_same _ _ f14', hide_same _ _ f17, by rw [List.length_append, List.length_map, lo]; exact Nat.le_trans (show _ + 2 ≤ 1000 by omega) (by decide), fun g4 hg4 => ?_⟩
      obtain ⟨S18, x18, f18⟩ := new_step (o := .lst ((row.map V.int ++ oth) ++ [w1, w2])) S17 hg4
      generalize upd H17 g4 (.lst ((row.map V.int ++ oth) ++ [w1, w2])) = H18 at S18 x18 f18 ⊢
      have afa : AllFine K H18 ((row.map V.int ++ oth) ++ [w1, w2]) := by
        refine AllFine.same hide_same (((fine_ints hR.small).app (afo.same (hide_mono (((((x13.trans x14).trans x15).trans x16).trans x17).trans x18)))).app ?_)
        exact .cons (hw1.mono ((x16.trans x17).trans x18)) ((odd_fine dd1 hdd1).mono (by decide) (by decide)) (.cons (hw2.mono (x17.trans x18)) ((odd_fine dd2 hdd2).mono (by decide) (by decide)) .nil)
      have hp18 : H18 p = some (.tup (row.map V.int)) := hide_same _ _ (hide_mono (((((x13.trans x14).trans x15).trans x16).trans x17).trans x18) _ _ fp12)
      have hg18 : H18 g4 = some (.lst ((row.map V.int ++ oth) ++ [w1, w2])) := hide_same _ _ f18
      generalize (row.map V.int ++ oth) ++ [w1, w2] = vals at afa hg18
      clear afo fp12 fp9 fp8 f9 f10 f11 f12 f13 f14 f14' f17 f18
      refine ⟨g4, rfl, ⟨_, SqL.of hg18⟩, for_list (K := K) (a := g4) (xs := vals) (fun j σ Hy => ∃ v6 : Option V, σ = [some (.ref a), some (.ref d), some (.int (0 + (i : Int))), some (.ref p), some (.str (PyData.shown (.tuple (row.map PyData.int)))), some (.ref e4), v6] ∧ Same H18 Hy) ⟨v6, rfl, Same.refl _⟩ (fun j σ Hy _ ⟨_, _, sy⟩ => SqL.of (sy _ _ hg18)) ?_ ?_⟩
      · rintro j y σ Hy hj ⟨v6, rfl, sy⟩
        obtain ⟨dd, hdq, hfine⟩ := afa y (List.mem_of_getElem? hj)
        have hdy := hdq.same sy
        have hpy := sy _ _ hp18
        have fl : FineQ (.list [dd]) 3 1005 := (FineQ.lst (ds := [dd]) (dep := 2) (B := 1000) fun z hz => by rw [List.mem_singleton] at hz; subst hz; exact hfine).mono (by decide) (by show 1 * (1000 + 2) + 3 ≤ 1005; decide)
        have fli : ∀ t, FineQ (.tuple ((lights row t).map PyData.int)) 1 1000 := fun t => (fine_row (by
          unfold lights
          rw [List.length_map]
          have := List.length_filter_le (fun i => decide (row.getD i 0 ≤ t)) (List.range row.length)
          rw [List.length_range] at this
          omega) fun z hz => by
          unfold lights at hz
          obtain ⟨m, hm, rfl⟩ := List.mem_map.mp hz
          have := List.mem_range.mp (List.mem_filter.mp hm).1
          omega).q
        refine ⟨_, rfl, _, rfl, p, row, y, dd, rfl, SqT.of hpy, hR, by omega, hdy, fun e l Hz sz hlz => ?_, fun t et e q Hz sz hqz => ?_⟩
        · refine ⟨_, .list [dd], rfl, .lst (SqL.of hlz) (.cons (hdy.same sz) .nil), fl.sh, Nat.le_trans fl.dp (by decide), Nat.le_trans fl.sz (by decide), ?_⟩
          refine ⟨_, rfl, _, rfl, p, row, y, dd, rfl, SqT.of (sz _ _ hpy), hR, by omega, hdy.same sz, fun _ l' Hw sw hlw => ?_, fun t _ e' => absurd (e.symm.trans e') (by decide)⟩
          refine ⟨_, .list [dd], rfl, .lst (SqL.of hlw) (.cons ((hdy.same sz).same sw) .nil), fl.sh, Nat.le_trans fl.dp (by decide), Nat.le_trans fl.sz (by decide), rfl, _, rfl, ?_⟩
          exact iteNS rfl ⟨_, rfl, (sy.trans sz).trans sw⟩
        · refine ⟨_, .tuple ((lights row t).map PyData.int), rfl, .tup (SqT.of hqz) (dq_ints _), (fli t).sh, Nat.le_trans (fli t).dp (by decide), Nat.le_trans (fli t).sz (by decide), ?_⟩
          refine ⟨_, rfl, _, rfl, p, row, y, dd, rfl, SqT.of (sz _ _ hpy), hR, by omega, hdy.same sz, fun e' => absurd (e.symm.trans e') (by decide), fun t' et' _ q' Hw sw hqw => ?_⟩
          obtain rfl : t' = t := by rw [et] at et'; cases et'; rfl
          refine ⟨_, .tuple ((lights row t').map PyData.int), rfl, .tup (SqT.of hqw) (dq_ints _), (fli t').sh, Nat.le_trans (fli t').dp (by decide), Nat.le_trans (fli t').sz (by decide), rfl, _, rfl, ?_⟩
          exact iteNS rfl ⟨_, rfl, (sy.trans sz).trans sw⟩
      · rintro σ Hy ⟨v6, rfl, sy⟩
        refine ⟨_, rfl, _, _, rfl, .tup (SqT.of (sy _ _ hp18)) (dq_ints row), fr.sh, Nat.le_trans fr.dp (by decide), Nat.le_trans fr.sz (by decide), ?_⟩
        refine ⟨_, rfl, rfl, _, rfl, ?_⟩
        exact iteNS rfl ⟨_, _, _, _, _, rfl, S18.same sy⟩
    · rintro σ Hx ⟨v2, v3, v4, v5, v6, rfl, Sx⟩
      exact k Hx
end
end LW

namespace LW
open PySem L2 KX MX
section
theorem all_mk {l : PySem.W.OpenLaw} {w : World} {K : PySem.W.Frag} {h : Heap} {mg : Str → Option Value} {fa fdB fdY fdV fdH fdX fdG fdU fdT fdO fdS fdK fdR fdD fdZ fdN fdQ fdE fW : Addr} (X : K.In h) (G : h.Ns mainGlobals mg) (hfa : mg "law" = some (.ref fa))
    {oddB andB : Option Addr} {sldB : Array (Option Value)} {ocdB kVdB dcdB pmdB cddB ctdB : Value}
    {oddY andY : Option Addr} {sldY : Array (Option Value)} {ocdY kVdY dcdY pmdY cddY ctdY : Value}
    {oddV andV : Option Addr} {sldV : Array (Option Value)} {ocdV kVdV dcdV pmdV cddV ctdV : Value}
    {oddH andH : Option Addr} {sldH : Array (Option Value)} {ocdH kVdH dcdH pmdH cddH ctdH : Value}
    {oddX andX : Option Addr} {sldX : Array (Option Value)} {ocdX kVdX dcdX pmdX cddX ctdX : Value}
    {oddG andG : Option Addr} {sldG : Array (Option Value)} {ocdG kVdG dcdG pmdG cddG ctdG : Value}
    {oddU andU : Option Addr} {sldU : Array (Option Value)} {ocdU kVdU dcdU pmdU cddU ctdU : Value}
    {oddT andT : Option Addr} {sldT : Array (Option Value)} {ocdT kVdT dcdT pmdT cddT ctdT : Value}
    {oddO andO : Option Addr} {sldO : Array (Option Value)} {ocdO kVdO dcdO pmdO cddO ctdO : Value}
    {oddS andS : Option Addr} {sldS : Array (Option Value)} {ocdS kVdS dcdS pmdS cddS ctdS : Value}
    {oddK andK : Option Addr} {sldK : Array (Option Value)} {ocdK kVdK dcdK pmdK cddK ctdK : Value}
    {oddR andR : Option Addr} {sldR : Array (Option Value)} {ocdR kVdR dcdR pmdR cddR ctdR : Value}
    {oddD andD : Option Addr} {sldD : Array (Option Value)} {ocdD kVdD dcdD pmdD cddD ctdD : Value}
    {oddZ andZ : Option Addr} {sldZ : Array (Option Value)} {ocdZ kVdZ dcdZ pmdZ cddZ ctdZ : Value}
    {oddN andN : Option Addr} {sldN : Array (Option Value)} {ocdN kVdN dcdN pmdN cddN ctdN : Value}
    {oddQ andQ : Option Addr} {sldQ : Array (Option Value)} {ocdQ kVdQ dcdQ pmdQ cddQ ctdQ : Value}
    {oddE andE : Option Addr} {sldE : Array (Option Value)} {ocdE kVdE dcdE pmdE cddE ctdE : Value}
    {odW anW : Option Addr} {slW : Array (Option Value)} {ocW kVW dcW pmW cdW ctW : Value}
    (adB : PySem.W.nsIn K mainGlobals "is_plain_integer" = some (some (.ref fdB))) (ldB : K.lookup fdB = some ⟨ocdB, oddB, .func (PySem.W.fnOf "is_plain_integer" "is_plain_integer" (defArgs sPlain) (defBody sPlain) (defScope sPlain) .none kVdB dcdB pmdB andB cddB ctdB), sldB⟩) (cdB : PySem.W.codeIn K cddB "is_plain_integer" = true) (kdB : PySem.W.keepIn K (.ref fdB) = true)
    (adY : PySem.W.nsIn K mainGlobals "is_in_row" = some (some (.ref fdY))) (ldY : K.lookup fdY = some ⟨ocdY, oddY, .func (PySem.W.fnOf "is_in_row" "is_in_row" (defArgs sInRow) (defBody sInRow) (defScope sInRow) .none kVdY dcdY pmdY andY cddY ctdY), sldY⟩) (cdY : PySem.W.codeIn K cddY "is_in_row" = true) (kdY : PySem.W.keepIn K (.ref fdY) = true)
    (adV : PySem.W.nsIn K mainGlobals "inversions" = some (some (.ref fdV))) (ldV : K.lookup fdV = some ⟨ocdV, oddV, .func (PySem.W.fnOf "inversions" "inversions" (defArgs sInv) (defBody sInv) (defScope sInv) .none kVdV dcdV pmdV andV cddV ctdV), sldV⟩) (cdV : PySem.W.codeIn K cddV "inversions" = true) (kdV : PySem.W.keepIn K (.ref fdV) = true)
    (adH : PySem.W.nsIn K mainGlobals "thresholds" = some (some (.ref fdH))) (ldH : K.lookup fdH = some ⟨ocdH, oddH, .func (PySem.W.fnOf "thresholds" "thresholds" (defArgs sThr) (defBody sThr) (defScope sThr) .none kVdH dcdH pmdH andH cddH ctdH), sldH⟩) (cdH : PySem.W.codeIn K cddH "thresholds" = true) (kdH : PySem.W.keepIn K (.ref fdH) = true)
    (adX : PySem.W.nsIn K mainGlobals "is_threshold" = some (some (.ref fdX))) (ldX : K.lookup fdX = some ⟨ocdX, oddX, .func (PySem.W.fnOf "is_threshold" "is_threshold" (defArgs sIsThr) (defBody sIsThr) (defScope sIsThr) .none kVdX dcdX pmdX andX cddX ctdX), sldX⟩) (cdX : PySem.W.codeIn K cddX "is_threshold" = true) (kdX : PySem.W.keepIn K (.ref fdX) = true)
    (adG : PySem.W.nsIn K mainGlobals "light_places" = some (some (.ref fdG))) (ldG : K.lookup fdG = some ⟨ocdG, oddG, .func (PySem.W.fnOf "light_places" "light_places" (defArgs sLight) (defBody sLight) (defScope sLight) .none kVdG dcdG pmdG andG cddG ctdG), sldG⟩) (cdG : PySem.W.codeIn K cddG "light_places" = true) (kdG : PySem.W.keepIn K (.ref fdG) = true)
    (adU : PySem.W.nsIn K mainGlobals "_law_supply" = some (some (.ref fdU))) (ldU : K.lookup fdU = some ⟨ocdU, oddU, .func (PySem.W.fnOf "_law_supply" "_law_supply" (defArgs sSupply) (defBody sSupply) (defScope sSupply) .none kVdU dcdU pmdU andU cddU ctdU), sldU⟩) (cdU : PySem.W.codeIn K cddU "_law_supply" = true) (kdU : PySem.W.keepIn K (.ref fdU) = true)
    (adT : PySem.W.nsIn K mainGlobals "_law_take" = some (some (.ref fdT))) (ldT : K.lookup fdT = some ⟨ocdT, oddT, .func (PySem.W.fnOf "_law_take" "_law_take" (defArgs sTake) (defBody sTake) (defScope sTake) .none kVdT dcdT pmdT andT cddT ctdT), sldT⟩) (cdT : PySem.W.codeIn K cddT "_law_take" = true) (kdT : PySem.W.keepIn K (.ref fdT) = true)
    (adO : PySem.W.nsIn K mainGlobals "_law_one" = some (some (.ref fdO))) (ldO : K.lookup fdO = some ⟨ocdO, oddO, .func (PySem.W.fnOf "_law_one" "_law_one" (defArgs sOne) (defBody sOne) (defScope sOne) .none kVdO dcdO pmdO andO cddO ctdO), sldO⟩) (cdO : PySem.W.codeIn K cddO "_law_one" = true) (kdO : PySem.W.keepIn K (.ref fdO) = true)
    (adS : PySem.W.nsIn K mainGlobals "_law_stirred" = some (some (.ref fdS))) (ldS : K.lookup fdS = some ⟨ocdS, oddS, .func (PySem.W.fnOf "_law_stirred" "_law_stirred" (defArgs sStir) (defBody sStir) (defScope sStir) .none kVdS dcdS pmdS andS cddS ctdS), sldS⟩) (cdS : PySem.W.codeIn K cddS "_law_stirred" = true) (kdS : PySem.W.keepIn K (.ref fdS) = true)
    (adK : PySem.W.nsIn K mainGlobals "_law_keys" = some (some (.ref fdK))) (ldK : K.lookup fdK = some ⟨ocdK, oddK, .func (PySem.W.fnOf "_law_keys" "_law_keys" (defArgs sKeys) (defBody sKeys) (defScope sKeys) .none kVdK dcdK pmdK andK cddK ctdK), sldK⟩) (cdK : PySem.W.codeIn K cddK "_law_keys" = true) (kdK : PySem.W.keepIn K (.ref fdK) = true)
    (adR : PySem.W.nsIn K mainGlobals "_law_row" = some (some (.ref fdR))) (ldR : K.lookup fdR = some ⟨ocdR, oddR, .func (PySem.W.fnOf "_law_row" "_law_row" (defArgs sRow) (defBody sRow) (defScope sRow) .none kVdR dcdR pmdR andR cddR ctdR), sldR⟩) (cdR : PySem.W.codeIn K cddR "_law_row" = true) (kdR : PySem.W.keepIn K (.ref fdR) = true)
    (adD : PySem.W.nsIn K mainGlobals "_law_odd" = some (some (.ref fdD))) (ldD : K.lookup fdD = some ⟨ocdD, oddD, .func (PySem.W.fnOf "_law_odd" "_law_odd" (defArgs sOdd) (defBody sOdd) (defScope sOdd) .none kVdD dcdD pmdD andD cddD ctdD), sldD⟩) (cdD : PySem.W.codeIn K cddD "_law_odd" = true) (kdD : PySem.W.keepIn K (.ref fdD) = true)
    (adZ : PySem.W.nsIn K mainGlobals "_law_is_key" = some (some (.ref fdZ))) (ldZ : K.lookup fdZ = some ⟨ocdZ, oddZ, .func (PySem.W.fnOf "_law_is_key" "_law_is_key" (defArgs sLIsKey) (defBody sLIsKey) (defScope sLIsKey) .none kVdZ dcdZ pmdZ andZ cddZ ctdZ), sldZ⟩) (cdZ : PySem.W.codeIn K cddZ "_law_is_key" = true) (kdZ : PySem.W.keepIn K (.ref fdZ) = true)
    (adN : PySem.W.nsIn K mainGlobals "_law_inversions" = some (some (.ref fdN))) (ldN : K.lookup fdN = some ⟨ocdN, oddN, .func (PySem.W.fnOf "_law_inversions" "_law_inversions" (defArgs sLInv) (defBody sLInv) (defScope sLInv) .none kVdN dcdN pmdN andN cddN ctdN), sldN⟩) (cdN : PySem.W.codeIn K cddN "_law_inversions" = true) (kdN : PySem.W.keepIn K (.ref fdN) = true)
    (adQ : PySem.W.nsIn K mainGlobals "_law_told" = some (some (.ref fdQ))) (ldQ : K.lookup fdQ = some ⟨ocdQ, oddQ, .func (PySem.W.fnOf "_law_told" "_law_told" (defArgs sTold) (defBody sTold) (defScope sTold) .none kVdQ dcdQ pmdQ andQ cddQ ctdQ), sldQ⟩) (cdQ : PySem.W.codeIn K cddQ "_law_told" = true) (kdQ : PySem.W.keepIn K (.ref fdQ) = true)
    (adE : PySem.W.nsIn K mainGlobals "_law_due" = some (some (.ref fdE))) (ldE : K.lookup fdE = some ⟨ocdE, oddE, .func (PySem.W.fnOf "_law_due" "_law_due" (defArgs sDue) (defBody sDue) (defScope sDue) .none kVdE dcdE pmdE andE cddE ctdE), sldE⟩) (cdE : PySem.W.codeIn K cddE "_law_due" = true) (kdE : PySem.W.keepIn K (.ref fdE) = true)
    (aW : PySem.W.nsIn K mainGlobals "law" = some (some (.ref fW))) (lW : K.lookup fW = some ⟨ocW, odW, .func (PySem.W.fnOf "law" "law" (defArgs sLaw) (defBody sLaw) (defScope sLaw) .none kVW dcW pmW anW cdW ctW), slW⟩) (cW : PySem.W.codeIn K cdW "law" = true) (kW : PySem.W.keepIn K (.ref fW) = true)
    (zlen : PySem.W.nsIn K mainGlobals "len" = some none)
    (zabs : PySem.W.nsIn K mainGlobals "abs" = some none)
    (zlis : PySem.W.nsIn K mainGlobals "list" = some none)
    (zran : PySem.W.nsIn K mainGlobals "range" = some none)
    (ztup : PySem.W.nsIn K mainGlobals "tuple" = some none)
    (zsor : PySem.W.nsIn K mainGlobals "sorted" = some none)
    (zrep : PySem.W.nsIn K mainGlobals "repr" = some none)
    (zisi : PySem.W.nsIn K mainGlobals "isinstance" = some none)
    (zint : PySem.W.nsIn K mainGlobals "int" = some none)
    (zboo : PySem.W.nsIn K mainGlobals "bool" = some none)
    (zenu : PySem.W.nsIn K mainGlobals "enumerate" = some none)
    (zval : PySem.W.nsIn K mainGlobals "ValueError" = some none)
    (zmax : PySem.W.nsIn K mainGlobals "max" = some none)
    (zmin : PySem.W.nsIn K mainGlobals "min" = some none)
    (zstr : PySem.W.nsIn K mainGlobals "str" = some none)
    {C R CI CK CP fJ : Addr} {odJ anJ : Option Addr} {slJ : Array (Option Value)} {ocJ kVJ dcJ pmJ cdJ ctJ : Value}
    {nm q : Str} {N : Addr} {bs bm : List Value} {sn : List Str} {sub : List Value} {ab : Bool} {col : Option Bool} {dd : Option Addr} {k0 k1 k2 k3 k5 : Option Value}
    (aC : PySem.W.nsIn K mainGlobals "NoThreshold" = some (some (.ref C)))
    (aR : PySem.W.nsIn K mainGlobals "RowError" = some (some (.ref R)))
    (aI : PySem.W.nsIn K mainGlobals "NoIndex" = some (some (.ref CI)))
    (aK : PySem.W.nsIn K mainGlobals "NoKey" = some (some (.ref CK)))
    (aP : PySem.W.nsIn K mainGlobals "NoPlace" = some (some (.ref CP)))
    (lC : K.lookup C = some (excClassObj nm q C N bs bm true sn sub ab col dd k0 k1 k2 k3 k5 "ValueError.__new__"))
    (rC : PySem.HandSPX.refsVE bm = true)
    (saC : PySem.W.findIn K (.ref C) "__setattr__" = some (some (.builtin "object.__setattr__")))
    (exC : PySem.W.subIn K (.ref C) (.type "BaseException") = some true)
    (tyC : PySem.W.typeIn K (.ref C) = some (.type "type"))
    (kpC : PySem.W.keepIn K (.ref C) = true)
    (iC : PySem.W.findIn K (.ref C) "__init__" = some (some (.ref fJ)))
    (tJ : PySem.W.typeIn K (.ref fJ) = some (.type "function"))
    (lJ : K.lookup fJ = some ⟨ocJ, odJ, .func (PySem.W.fnOf "__init__" "NoThreshold.__init__" (defArgs sInit) (defBody sInit) (defScope sInit) .none kVJ dcJ pmJ anJ cdJ ctJ), slJ⟩)
    (cJ : PySem.W.codeIn K cdJ "NoThreshold.__init__" = true)
    (kJ : PySem.W.keepIn K (.ref fJ) = true)
    (noC : PySem.W.findIn K (.ref C) "value" = some none)
    (gaC : PySem.W.findIn K (.ref C) "__getattribute__" = some (some (.builtin "BaseException.__getattribute__")))
    (ggC : PySem.W.findIn K (.ref C) "__getattr__" = some none)
    (caC : PySem.W.findIn K (.ref C) "__class__" = some (some (.builtin "object.__class__")))
    (cnC : PySem.W.specialIn K (.builtin "object.__class__") "__get__" = some (some (.builtin "getset_descriptor.__get__")))
    (ctC : PySem.W.takesIn K (.builtin "object.__class__") = some true)
    (moC : PySem.W.mroIn K C (.type "object") = some true)
    (hdC : PySem.W.hasDictIn K C = true)
    (sR : PySem.W.subIn K (.ref C) (.ref R) = some true)
    (bR : PySem.W.subIn K (.ref R) (.type "BaseException") = some true)
    (hR : PySem.W.hasDictIn K R = true)
    (tR : PySem.W.typeIn K (.ref R) = some (.type "type"))
    (sV : PySem.W.subIn K (.ref C) (.type "ValueError") = some true)
    (sCI : PySem.W.subIn K (.ref C) (.ref CI) = some false)
    (hCI : PySem.W.hasDictIn K CI = true)
    (tCI : PySem.W.typeIn K (.ref CI) = some (.type "type"))
    (nCI : (Value.ref C == Value.ref CI) = false)
    (sCK : PySem.W.subIn K (.ref C) (.ref CK) = some false)
    (hCK : PySem.W.hasDictIn K CK = true)
    (tCK : PySem.W.typeIn K (.ref CK) = some (.type "type"))
    (nCK : (Value.ref C == Value.ref CK) = false)
    (sCP : PySem.W.subIn K (.ref C) (.ref CP) = some false)
    (hCP : PySem.W.hasDictIn K CP = true)
    (tCP : PySem.W.typeIn K (.ref CP) = some (.type "type"))
    (nCP : (Value.ref C == Value.ref CP) = false)
    : ∃ fd : FuncData, (∀ (s : Shared) (v : Value), BindsTo s fd ⟨[v], []⟩ [("_law_script", v)]) ∧ ∀ base : Heap, K.In base → base.Ns mainGlobals mg → FnOkG l.prog w K mg base CX0 6 fa fd ["_law_script"] (spLaw K) := by
  have e := hfa.symm.trans (PySem.W.mg_of X G aW)
  cases e
  have FdB := fun_mk (st := sPlain) ldB cdB kdB
  have mdB := PySem.W.mg_of X G adB
  have bdB := FdB.binds (ps := ["value"]) fun _ _ _ _ _ _ us hl => match us, hl with | [_], _ => rfl
  have FdY := fun_mk (st := sInRow) ldY cdY kdY
  have mdY := PySem.W.mg_of X G adY
  have bdY := FdY.binds (ps := ["row", "value"]) fun _ _ _ _ _ _ us hl => match us, hl with | [_, _], _ => rfl
  have FdV := fun_mk (st := sInv) ldV cdV kdV
  have mdV := PySem.W.mg_of X G adV
  have bdV := FdV.binds (ps := ["row"]) fun _ _ _ _ _ _ us hl => match us, hl with | [_], _ => rfl
  have FdH := fun_mk (st := sThr) ldH cdH kdH
  have mdH := PySem.W.mg_of X G adH
  have bdH := FdH.binds (ps := ["row"]) fun _ _ _ _ _ _ us hl => match us, hl with | [_], _ => rfl
  have FdX := fun_mk (st := sIsThr) ldX cdX kdX
  have mdX := PySem.W.mg_of X G adX
  have bdX := FdX.binds (ps := ["row", "value"]) fun _ _ _ _ _ _ us hl => match us, hl with | [_, _], _ => rfl
  have FdG := fun_mk (st := sLight) ldG cdG kdG
  have mdG := PySem.W.mg_of X G adG
  have bdG := FdG.binds (ps := ["row", "threshold"]) fun _ _ _ _ _ _ us hl => match us, hl with | [_, _], _ => rfl
  have FdU := fun_mk (st := sSupply) ldU cdU kdU
  have mdU := PySem.W.mg_of X G adU
  have bdU := FdU.binds (ps := ["_law_script"]) fun _ _ _ _ _ _ us hl => match us, hl with | [_], _ => rfl
  have FdT := fun_mk (st := sTake) ldT cdT kdT
  have mdT := PySem.W.mg_of X G adT
  have bdT := FdT.binds (ps := ["_law_supply_here", "_law_many"]) fun _ _ _ _ _ _ us hl => match us, hl with | [_, _], _ => rfl
  have FdO := fun_mk (st := sOne) ldO cdO kdO
  have mdO := PySem.W.mg_of X G adO
  have bdO := FdO.binds (ps := ["_law_supply_here", "_law_items"]) fun _ _ _ _ _ _ us hl => match us, hl with | [_, _], _ => rfl
  have FdS := fun_mk (st := sStir) ldS cdS kdS
  have mdS := PySem.W.mg_of X G adS
  have bdS := FdS.binds (ps := ["_law_supply_here", "_law_items"]) fun _ _ _ _ _ _ us hl => match us, hl with | [_, _], _ => rfl
  have FdK := fun_mk (st := sKeys) ldK cdK kdK
  have mdK := PySem.W.mg_of X G adK
  have bdK := FdK.binds (ps := ["_law_supply_here", "_law_n"]) fun _ _ _ _ _ _ us hl => match us, hl with | [_, _], _ => rfl
  have FdR := fun_mk (st := sRow) ldR cdR kdR
  have mdR := PySem.W.mg_of X G adR
  have bdR := FdR.binds (ps := ["_law_supply_here", "_law_most"]) fun _ _ _ _ _ _ us hl => match us, hl with | [_, _], _ => rfl
  have FdD := fun_mk (st := sOdd) ldD cdD kdD
  have mdD := PySem.W.mg_of X G adD
  have bdD := FdD.binds (ps := ["_law_supply_here"]) fun _ _ _ _ _ _ us hl => match us, hl with | [_], _ => rfl
  have FdZ := fun_mk (st := sLIsKey) ldZ cdZ kdZ
  have mdZ := PySem.W.mg_of X G adZ
  have bdZ := FdZ.binds (ps := ["_law_value"]) fun _ _ _ _ _ _ us hl => match us, hl with | [_], _ => rfl
  have FdN := fun_mk (st := sLInv) ldN cdN kdN
  have mdN := PySem.W.mg_of X G adN
  have bdN := FdN.binds (ps := ["_law_row_here"]) fun _ _ _ _ _ _ us hl => match us, hl with | [_], _ => rfl
  have FdQ := fun_mk (st := sTold) ldQ cdQ kdQ
  have mdQ := PySem.W.mg_of X G adQ
  have bdQ := FdQ.binds (ps := ["_law_row_here", "_law_threshold"]) fun _ _ _ _ _ _ us hl => match us, hl with | [_, _], _ => rfl
  have FdE := fun_mk (st := sDue) ldE cdE kdE
  have mdE := PySem.W.mg_of X G adE
  have bdE := FdE.binds (ps := ["_law_row_here", "_law_threshold"]) fun _ _ _ _ _ _ us hl => match us, hl with | [_, _], _ => rfl
  have FW := fun_mk (st := sLaw) lW cW kW
  have mW := PySem.W.mg_of X G aW
  have bW := FW.binds (ps := ["_law_script"]) fun _ _ _ _ _ _ us hl => match us, hl with | [_], _ => rfl
  have nlen := PySem.W.mg_none_of X G zlen
  have nabs := PySem.W.mg_none_of X G zabs
  have nlis := PySem.W.mg_none_of X G zlis
  have nran := PySem.W.mg_none_of X G zran
  have ntup := PySem.W.mg_none_of X G ztup
  have nsor := PySem.W.mg_none_of X G zsor
  have nrep := PySem.W.mg_none_of X G zrep
  have nisi := PySem.W.mg_none_of X G zisi
  have nint := PySem.W.mg_none_of X G zint
  have nboo := PySem.W.mg_none_of X G zboo
  have nenu := PySem.W.mg_none_of X G zenu
  have nval := PySem.W.mg_none_of X G zval
  have nmax := PySem.W.mg_none_of X G zmax
  have nmin := PySem.W.mg_none_of X G zmin
  have nstr := PySem.W.mg_none_of X G zstr
  refine ⟨PySem.W.fnOf "law" "law" (defArgs sLaw) (defBody sLaw) (defScope sLaw) .none kVW dcW pmW anW cdW ctW, fun s v => .of_eq rfl, fun base _ _ => ?_⟩
  have GT := ok_take (P := l.prog) (w := w) (base := base) FdT nlen
  have GU := ok_supply (P := l.prog) (w := w) (base := base) FdU nlen nabs
  have GS := ok_stir (P := l.prog) (w := w) (base := base) FdS GT mdT kdT bdT nlen nlis
  have GK := ok_keys (P := l.prog) (w := w) (base := base) FdK GT mdT kdT bdT nran
  have GR := ok_row (P := l.prog) (w := w) (base := base) FdR GT mdT kdT bdT GK mdK kdK bdK GS mdS kdS bdS nlen ntup
  have GO := ok_one (P := l.prog) (w := w) (base := base) FdO GT mdT kdT bdT nlen
  have GD := ok_odd (P := l.prog) (w := w) (base := base) FdD GO mdO kdO bdO
  have GB := ok_plain (P := l.prog) (w := w) (base := base) FdB nisi nint nboo
  have GY := ok_inrow (P := l.prog) (w := w) (base := base) FdY GB mdB kdB bdB
  have GZ := ok_liskey (P := l.prog) (w := w) (base := base) FdZ nisi nint nboo
  have GV := ok_inv (P := l.prog) (w := w) (base := base) FdV nenu ntup nsor
  have GH := ok_thr (P := l.prog) (w := w) (base := base) FdH ntup nsor
  have GX := ok_isthr (P := l.prog) (w := w) (base := base) FdX GY mdY kdY bdY nmax
  have FJ := fun_mk (st := sInit) lJ cJ kJ
  have bJ := FJ.binds (ps := ["self", "value"]) fun _ _ _ _ _ _ us hl => match us, hl with | [_, _], _ => rfl
  have TC : OexC K C := ⟨⟨_, _, _, _, _, _, _, _, _, _, _, _, _, _, _, lC, rC⟩, saC, exC, tyC, kpC⟩
  have GJ := ok_init (P := l.prog) (w := w) (base := base) (mg := mg) FJ TC noC
  have TT : ToldTxt K mg C R CI CK CP := ⟨PySem.W.mg_of X G aC, PySem.W.mg_of X G aR, PySem.W.mg_of X G aI, PySem.W.mg_of X G aK, PySem.W.mg_of X G aP, PySem.W.exm_ref bR hR tR sR, ⟨cls_some hdC, gaC, ggC, exC, caC, cnC, ctC, moC⟩, ⟨gaC, ggC, exC, hdC⟩, noC, kit_base meta_VE sV, kit_self, kit_own hCI tCI sCI nCI, kit_own hCK tCK sCK nCK, kit_own hCP tCP sCP nCP⟩
  have GG := ok_light (P := l.prog) (w := w) (base := base) FdG GX mdX kdX bdX TC GJ iC tJ bJ (PySem.W.mg_of X G aC) nenu ntup
  have GQ := ok_told (P := l.prog) (w := w) (base := base) FdQ GG mdG kdG bdG TT nisi nval
  have GE := ok_due (P := l.prog) (w := w) (base := base) FdE GZ mdZ kdZ bdZ ntup nran nlen
  have GN := ok_linv (P := l.prog) (w := w) (base := base) FdN nran nlen ntup nsor
  exact ok_law FW GU mdU kdU bdU GR mdR kdR bdR GV mdV kdV bdV GH mdH kdH bdH GN mdN kdN bdN GD mdD kdD bdD GQ mdQ kdQ bdQ GE mdE kdE bdE nran ntup nrep nsor nmax nmin nstr nlis
end
end LW
open PySem PySem.W PyProof.Rows
set_option maxRecDepth 100000 in
set_option maxHeartbeats 0 in
theorem PySem.Challenge.cw_oddrounds_k04_inversions_and_light_place_holds : PySem.Challenge.rw_oddrounds_k04_inversions_and_light_place.Holds := by
  w_on; o_law; k_head; (case hw => w_witness2)
  k_fill
  refine KX.walkG (l := PySem.Challenge.rw_oddrounds_k04_inversions_and_light_place) (n := 63) (k := 6) (x := "_law_script") (sp := LW.spLaw) rfl (by decide) rfl ⟨rfl, by decide, by decide⟩ (fun w h Y => PySem.W.kIn_of Y) ?F (fun _ _ a ns hl _ hS => ⟨a, ns, rfl, hS, hl, fun _ => rfl⟩)
  case F =>
    intro w mg fa h KX G hmg
    refine' LW.all_mk KX G hmg ?adB ?ldB ?cdB ?kdB ?adY ?ldY ?cdY ?kdY ?adV ?ldV ?cdV ?kdV ?adH ?ldH ?cdH ?kdH ?adX ?ldX ?cdX ?kdX ?adG ?ldG ?cdG ?kdG ?adU ?ldU ?cdU ?kdU ?adT ?ldT ?cdT ?kdT ?adO ?ldO ?cdO ?kdO ?adS ?ldS ?cdS ?kdS ?adK ?ldK ?cdK ?kdK ?adR ?ldR ?cdR ?kdR ?adD ?ldD ?cdD ?kdD ?adZ ?ldZ ?cdZ ?kdZ ?adN ?ldN ?cdN ?kdN ?adQ ?ldQ ?cdQ ?kdQ ?adE ?ldE ?cdE ?kdE ?aW ?lW ?cW ?kW ?zlen ?zabs ?zlis ?zran ?ztup ?zsor ?zrep ?zisi ?zint ?zboo ?zenu ?zval ?zmax ?zmin ?zstr ?aC ?aR ?aI ?aK ?aP ?lC ?rC ?saC ?exC ?tyC ?kpC ?iC ?tJ ?lJ ?cJ ?kJ ?noC ?gaC ?ggC ?caC ?cnC ?ctC ?moC ?hdC ?sR ?bR ?hR ?tR ?sV ?sCI ?hCI ?tCI ?nCI ?sCK ?hCK ?tCK ?nCK ?sCP ?hCP ?tCP ?nCP
    (case adB => k_is); (case ldB => k_is); (case cdB => k_is); (case kdB => k_is); (case adY => k_is); (case ldY => k_is)
    (case cdY => k_is); (case kdY => k_is); (case adV => k_is); (case ldV => k_is); (case cdV => k_is); (case kdV => k_is)
    (case adH => k_is); (case ldH => k_is); (case cdH => k_is); (case kdH => k_is); (case adX => k_is); (case ldX => k_is)
    (case cdX => k_is); (case kdX => k_is); (case adG => k_is); (case ldG => k_is); (case cdG => k_is); (case kdG => k_is)
    (case adU => k_is); (case ldU => k_is); (case cdU => k_is); (case kdU => k_is); (case adT => k_is); (case ldT => k_is)
    (case cdT => k_is); (case kdT => k_is); (case adO => k_is); (case ldO => k_is); (case cdO => k_is); (case kdO => k_is)
    (case adS => k_is); (case ldS => k_is); (case cdS => k_is); (case kdS => k_is); (case adK => k_is); (case ldK => k_is)
    (case cdK => k_is); (case kdK => k_is); (case adR => k_is); (case ldR => k_is); (case cdR => k_is); (case kdR => k_is)
    (case adD => k_is); (case ldD => k_is); (case cdD => k_is); (case kdD => k_is); (case adZ => k_is); (case ldZ => k_is)
    (case cdZ => k_is); (case kdZ => k_is); (case adN => k_is); (case ldN => k_is); (case cdN => k_is); (case kdN => k_is)
    (case adQ => k_is); (case ldQ => k_is); (case cdQ => k_is); (case kdQ => k_is); (case adE => k_is); (case ldE => k_is)
    (case cdE => k_is); (case kdE => k_is); (case aW => k_is); (case lW => k_is); (case cW => k_is); (case kW => k_is)
    (case zlen => k_is); (case zabs => k_is); (case zlis => k_is); (case zran => k_is); (case ztup => k_is); (case zsor => k_is)
    (case zrep => k_is); (case zisi => k_is); (case zint => k_is); (case zboo => k_is); (case zenu => k_is); (case zval => k_is)
    (case zmax => k_is); (case zmin => k_is); (case zstr => k_is)
    (case aC => k_is)
    (case aR => k_is)
    (case aI => k_is)
    (case aK => k_is)
    (case aP => k_is)
    (case lC => k_is)
    (case rC => decide +kernel)
    (case saC => k_is)
    (case exC => k_is)
    (case tyC => k_is)
    (case kpC => k_is)
    (case iC => k_is)
    (case tJ => k_is)
    (case lJ => k_is)
    (case cJ => k_is)
    (case kJ => k_is)
    (case noC => k_is)
    (case gaC => k_is)
    (case ggC => k_is)
    (case caC => k_is)
    (case cnC => k_is)
    (case ctC => k_is)
    (case moC => k_is)
    (case hdC => k_is)
    (case sR => k_is)
    (case bR => k_is)
    (case hR => k_is)
    (case tR => k_is)
    (case sV => k_is)
    (case sCI => k_is)
    (case hCI => k_is)
    (case tCI => k_is)
    (case nCI => decide)
    (case sCK => k_is)
    (case hCK => k_is)
    (case tCK => k_is)
    (case nCK => decide)
    (case sCP => k_is)
    (case hCP => k_is)
    (case tCP => k_is)
    (case nCP => decide)
#print axioms PySem.Challenge.cw_oddrounds_k04_inversions_and_light_place_holds

