import Derived.Test.YtjnbhiamaabbgabGreatDoorM6
set_option linter.all false
set_option maxRecDepth 100000
set_option maxHeartbeats 8000000
namespace Go.Proofs.YtjnbhiamaabbgabGreatDoor
namespace P
open Go.RowKit A
def gX{a b:Bool}(h:a=true)(k:b=true):(a&&b)=true:=by rw[h,k];rfl
def xty:joinedFacts Tryz.pinned.checked.prog 7 Tryz.f7 Rows.unrepeatedSpec Rows.unrepeatedRow=true:=by
 unfold joinedFacts
 repeat' with_reducible refine gX ?_ ?_
 all_goals kernel_rfl
def xro:Tryz.pinned.checked.prog.funcNamed Rows.unrepeatedRow.func=some 7:=by kernel_rfl
def xt3:Tryz.f7.isInstance Tryz.pinned.checked.prog Rows.unrepeatedRow.origin Rows.unrepeatedRow.targs:=Xj<|by kernel_rfl
def xv4:Tryz.f7.isWrapper Tryz.pinned.checked.prog Rows.unrepeatedRow.wrapper Rows.unrepeatedRow.mainSum:=by unfold Func.isWrapper;first|(rw[aA<|by decide+kernel];kernel_rfl)|(rw[aB<|by decide+kernel];exact⟨rfl,rfl⟩)
def said:Rows.UnrepeatedSaid:=
 OpenClaim.holds_of_wide_leaving 7 Tryz.f7 rfl rfl rfl rfl rfl rfl rfl ⟨rfl,rfl,rfl,rfl,rfl⟩ rfl rfl rfl rfl rfl xro Tryz.func7 xty xt3 xv4
  (fun c a H b _=>by rw[OpenClaim.pre_eq_preRow];exact lifted c a H b)
def plain(f:FuncId)(fn:Func)(d:Tryz.pinned.checked.prog.funcNamed "coffer/cofferkeep.Unrepeated"=some f)(a:Tryz.pinned.checked.prog.funcs[f]?=some fn):
  true=Tryz.pinned.checked.prog.looks []/\∀(j:Nat) t,fn.params[j]?=some t->Tryz.pinned.checked.prog.wantsStandIn t=false:=by
 obtain rfl:f=7:=jf ((show Tryz.prog.funcNamed "coffer/cofferkeep.Unrepeated"=some 7 by kernel_rfl).symm.trans d) |>.symm;obtain rfl:fn=Tryz.f7:=(jf<|Tryz.func7.symm.trans a).symm;refine⟨by kernel_rfl,fun j t c=>?_⟩;rw[Tryz.params7]at c;have b:=Wk c;simp only[List.mem_toArray,xf,Vy,or_false]at b;rcases b with rfl|rfl|rfl;exact(show Tryz.prog.wantsStandIn 9=false by kernel_rfl);exact(show Tryz.prog.wantsStandIn 3=false by kernel_rfl);exact(show Tryz.prog.wantsStandIn 22=false by kernel_rfl)
def xt1:true=Rows.unrepeatedRow.goesBy Tryz.pinned.checked.prog:=by kernel_rfl
def xt7:Tryz.pinned.checked.prog.mainIs=some (true,"6112a70bf7700c9ef082f368a9341514db7d80b00d6c93fffd8a755e3258b503".toList):=by kernel_rfl
def card:Rows.UnrepeatedCardSaid:=
 ⟨Claim7.tied_new_at .later [.data,.sentinel,.sentinel] true (Claim7.new_of_sixth said (true,"6112a70bf7700c9ef082f368a9341514db7d80b00d6c93fffd8a755e3258b503") true rfl ⟨rfl,rfl⟩ xt7 rfl plain)<|by kernel_rfl,fun D a=>(by cases a),unrepeated_row_tie,(fun h=>by cases h),xt1⟩
end P
end Go.Proofs.YtjnbhiamaabbgabGreatDoor
